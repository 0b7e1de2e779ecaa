/-
  The document's stable, at a tree that is read alone.
-/
import Derived.Test.YtbcadeikdmlpoaaGreatDoorN13a
import Derived.Test.YtbcadeikdmlpoaaGreatDoorN8
import Derived.Laws.AppendOwnNone
namespace Utf1
def hasP (l : List (List UInt8)) : Bool := decide ([112] ∈ l)
def lstF (l : List (List UInt8)) : List UInt8 := l.foldl (fun acc n => if n = [108, 105] ∨ n = [117, 108] ∨ n = [111, 108] then n else acc) []
def inIt (l : List (List UInt8)) : Bool := decide (lstF l = [108, 105])
theorem hasP_snoc (l : List (List UInt8)) (n : List UInt8) : hasP (l ++ [n]) = (hasP l || decide (n = [112])) := by
  unfold hasP
  by_cases h : n = [112]
  · subst h
    simp
  · have : [112] ≠ n := fun e => h e.symm
    simp [h, this]
theorem lstF_snoc (l : List (List UInt8)) (n : List UInt8) : lstF (l ++ [n]) = if n = [108, 105] ∨ n = [117, 108] ∨ n = [111, 108] then n else lstF l := by
  unfold lstF
  rw [List.foldl_append]
  rfl
theorem inIt_snoc (l : List (List UInt8)) (n : List UInt8) : inIt (l ++ [n]) = itm (inIt l) n := by
  unfold inIt itm
  rw [lstF_snoc]
  by_cases h1 : n = [108, 105]
  · rw [if_pos (.inl h1), if_pos h1]
    exact decide_eq_true h1
  · rw [if_neg h1]
    by_cases h2 : n = [117, 108] ∨ n = [111, 108]
    · rw [if_pos (.inr h2), if_pos h2]
      exact decide_eq_false h1
    · rw [if_neg (fun h => h.elim h1 h2), if_neg h2]
end Utf1
namespace Go.Proofs.YtbcadeikdmlpoaaGreatDoor.Dm
open Go.RowKit
open Utf1

/-- A slice holds names. -/
def SRow (w : World) (v : Value) (l : List (List UInt8)) : Prop := ∃ p c, v = .slice p l.length c ∧ (p = none → v = .slice none 0 0 ∧ l = []) ∧ ∀ i s, l[i]? = some s → ∃ g off, p = some ⟨g, off, none⟩ ∧ w.cell? ⟨g, off + i, none⟩ = some (.string ⟨s.toArray⟩)
theorem SRow.below {w w' : World} {v : Value} {l : List (List UInt8)} (h : SRow w v l) (hb : Below w.heap.size w w') : SRow w' v l := by
  obtain ⟨p, c, h1, h2, h3⟩ := h
  refine ⟨p, c, h1, h2, fun i s hi => ?_⟩
  obtain ⟨g, off, e, hc⟩ := h3 i s hi
  exact ⟨g, off, e, cell_keep hc hb⟩
theorem srow_nil (w : World) : SRow w (.slice none 0 0) [] := ⟨none, 0, rfl, fun _ => ⟨rfl, rfl⟩, fun i s h => by simp at h⟩
def strs (l : List (List UInt8)) : List Value := l.map fun s => Value.string ⟨s.toArray⟩
theorem info_s : ∃ i : TypeInfo, Tryz.prog.info? 9 = some i ∧ i.zero = some (.string ⟨#[]⟩) ∧ i.size = 1 ∧ i.bytes = 16 := by
  have h : (Tryz.prog.info? 9).map (fun i => (i.zero, i.size, i.bytes)) = some (some (.string ⟨#[]⟩), 1, 16) := by kernel_rfl
  cases hi : Tryz.prog.info? 9 with
  | none => rw [hi] at h; simp at h
  | some i =>
    rw [hi] at h
    simp at h
    exact ⟨i, rfl, h.1, h.2.1, h.2.2⟩
theorem own_le {w : World} {B : Nat} {e : TypeId} {sz : Nat} {v : Value} {n : Nat} {xs : List Value} (h : w.ownsRow B e sz v n xs) : ∀ k, v.ownBlock = some k → B ≤ k := by
  intro k hk
  obtain ⟨_, ⟨rfl, _⟩ | ⟨g, cap, cur, rfl, h1, _⟩⟩ := h
  · simp [Value.ownBlock] at hk
  · have : g = k := by simpa [Value.ownBlock] using hk
    omega
theorem srow_own {w : World} {B n : Nat} {v : Value} {l : List (List UInt8)} (h : w.ownsRow B 9 1 v n (strs l)) (hn : n = l.length) (hv : v ≠ .slice none 0 0) : SRow w v l := by
  obtain ⟨p, c, rfl⟩ := own_len h
  refine ⟨p, c, by rw [hn], fun hp => ?_, fun i s hi => ?_⟩
  · subst hp
    obtain ⟨_, ⟨e, _⟩ | ⟨g, cap, cur, e, _⟩⟩ := h
    · exact absurd e hv
    · cases e
  · have hil := (List.getElem?_eq_some_iff.1 hi).1
    obtain ⟨g, c', e, hcell⟩ := own_at h (by omega)
    injection e with e1
    refine ⟨g, 0, e1, ?_⟩
    rw [Nat.zero_add, hcell _ (by omega)]
    unfold strs
    rw [List.getElem?_map, hi]
    rfl
theorem wpAny_at {P : Program} {md : Region.Mode} {ops : Array Oper} {Q : Exit → Act → World → Prop} {i : Nat} {oi : Oper} {v : Value} {fuel : Nat} {listed : Array Bool} {a a' : Act} {w : World} (hi : ops[i]? = some oi)
    (hs : Region.noSelect ops = true) (hf : Region.free md ops listed i = true) (hr : (Region.ready md ops listed).contains i = true)
    (hQ : ∀ c a w, Q (.panic c) (a.put oi.dst v) w → Q (.panic c) a w) (hy : Yields P ops oi v a) (ha : a.put oi.dst v = a')
    (h : wpAny P md ops Q fuel (listed.setIfInBounds i true) a' w) : wpAny P md ops Q (fuel + 1) listed a w :=
  wpAny_take hi hs hf hr hQ hy (ha ▸ h)
set_option maxRecDepth 100000 in
theorem wp_append_strs {o : Oper} {a : Act} {K : Act → World → Prop} {Q : Exit → Act → World → Prop} (s x : Operand) (ho : o.op = .call { callee := .builtin .append, args := #[s, x], argTypes := #[22, 22] })
    (w0 w : World) (v vin : Value) (names : List (List UInt8)) (hs : a.eval s = v) (hx : a.eval x = vin) (hb : Below w0.heap.size w0 w) (hown : w.ownsRow w0.heap.size 9 1 v 0 []) (hv : v ≠ .slice none 0 0) (hin : SRow w0 vin names) (hl : names.length ≤ 100000)
    (h : ∀ v' w', w'.ownsRow w0.heap.size 9 1 v' names.length (strs names) → v' ≠ .slice none 0 0 → Below w0.heap.size w0 w' → w.grownBy w' v.ownBlock → K (a.put o.dst v') w') : o.wp Tryz.prog a w K Q := by
  obtain ⟨i0, hi, hz0, hz1, hz2⟩ := info_s
  obtain ⟨p, c, rfl, hnone, hcell⟩ := hin
  cases p with
  | none =>
    obtain ⟨e1, e2⟩ := hnone rfl
    subst e2
    have hrun := run_append_owned_none (P := Tryz.prog) (w := w) w0.heap.size 22 o.type 9 i0 1 Tryz.underlying22 hi v 0 [] hown
    rw [e1] at hx
    have hK := h v w (by simpa [strs] using hown) hv hb ⟨rfl, rfl, rfl, Nat.le_refl _, fun _ _ _ => rfl⟩
    unfold Oper.wp
    simp [execOp, ho, resolve, invoke, builtin, hs, hx, hrun, Result.andThen]
    exact hK
  | some ad =>
    refine wp_append_own w s x 22 ho w0.heap.size 9 i0 _ 1 16 Tryz.underlying22 hi hz0 hz1 hz2 rfl (by decide) v 0 [] hs hown ad names.length c (strs names) hx (by simp [strs]) ?_ ?_ (by unfold maxLen; omega) (by omega) hb.size ?_
    · intro j u hj
      unfold strs at hj
      rw [List.getElem?_map] at hj
      cases hs2 : names[j]? with
      | none => rw [hs2] at hj; cases hj
      | some t =>
        rw [hs2] at hj
        obtain ⟨g, off, e, hc⟩ := hcell j t hs2
        injection e with e
        subst e
        have e2 : (⟨g, off, none⟩ : Addr).add j = ⟨g, off + j, none⟩ := by cases j <;> simp [Addr.add]
        rw [e2, cell_keep hc hb]
        simpa using hj
    · intro u hu
      obtain ⟨t, _, rfl⟩ := List.mem_map.1 hu
      rfl
    · intro v' w' g1 g2 g3
      rw [List.nil_append, Nat.zero_add] at g1
      exact h v' w' g1 (fun e => hv (g3.1 e).1) (hb.grown g2 hb.size (fun j hj => own_le hown j hj)) g2
theorem wp_append_str1 {o : Oper} {a : Act} {K : Act → World → Prop} {Q : Exit → Act → World → Prop} (s x : Operand) (ho : o.op = .call { callee := .builtin .append, args := #[s, x], argTypes := #[22, 22] })
    (w0 w : World) (v : Value) (names : List (List UInt8)) (XN : ByteArray) (gN : Nat) (hs : a.eval s = v) (hx : a.eval x = .slice (some ⟨gN, 0, none⟩) 1 1) (hb : Below w0.heap.size w0 w) (hown : w.ownsRow w0.heap.size 9 1 v names.length (strs names)) (hv : v ≠ .slice none 0 0) (hc : w.cell? ⟨gN, 0, none⟩ = some (.string XN)) (hl : names.length ≤ 100000)
    (h : ∀ v' w', SRow w' v' (names ++ [bl XN]) → Below w0.heap.size w0 w' → K (a.put o.dst v') w') : o.wp Tryz.prog a w K Q := by
  obtain ⟨i0, hi, hz0, hz1, hz2⟩ := info_s
  refine wp_append_own w s x 22 ho w0.heap.size 9 i0 _ 1 16 Tryz.underlying22 hi hz0 hz1 hz2 rfl (by decide) v names.length (strs names) hs hown ⟨gN, 0, none⟩ 1 1 [.string XN] hx rfl ?_ ?_ (by unfold maxLen; omega) (by omega) hb.size ?_
  · intro j u hj
    match j, hj with
    | 0, hj =>
      have : Value.string XN = u := by simpa using hj
      rw [← this]
      exact hc
    | j + 1, hj => simp at hj
  · intro u hu
    have : u = .string XN := by simpa using hu
    rw [this]
    rfl
  · intro v' w' g1 g2 g3
    have e : strs names ++ [.string XN] = strs (names ++ [bl XN]) := by
      unfold strs
      rw [List.map_append]
      show _ = _ ++ [Value.string ⟨(bl XN).toArray⟩]
      rw [bl_eta]
    rw [e] at g1
    exact h v' w' (srow_own g1 (by simp) (fun e => hv (g3.1 e).1)) (hb.grown g2 hb.size (fun j hj => own_le hown j hj))

set_option maxRecDepth 100000 in
set_option maxHeartbeats 32000000 in
theorem rstable_nst : ∀ (D : Nat) (w : World) (v : Value) (ns : List Nd) (vin : Value) (names : List (List UInt8)), NAtD w D v ns → SRow w vin names → names.length + wsL ns ≤ 40000 →
    Calls Tryz.prog 42 #[v, vin] w fun e w' => e = .returned (.bool (stL (hasP names) (inIt names) false ns)) ∧ Below w.heap.size w w' := by
  intro D
  induction D with
  | zero => intro w v ns vin names h; exact h.elim
  | succ D0 ih =>
  intro w v ns vin names hk hin hM
  obtain ⟨q, c, rfl, hNm, hnode⟩ := hk
  have HSR := hide hin
  obtain ⟨pi, ci, rfl, -, hcell⟩ := hin
  have HCELL := hide hcell
  have HNODE := hide hnode
  have HIH := hide ih
  obtain ⟨R, hR⟩ : ∃ R, R = stL (hasP names) (inIt names) false ns := ⟨_, rfl⟩
  rw [← hR]
  have HR := hide hR
  obtain ⟨N, hN⟩ : ∃ N, N = ns.length := ⟨_, rfl⟩
  obtain ⟨M, hMM⟩ : ∃ M, M = names.length := ⟨_, rfl⟩
  rw [← hMM] at HSR
  rw [← hN] at hNm ⊢
  rw [← hMM] at hM ⊢
  have HN := hide hN
  have HMM := hide hMM
  have HMS := hide hM
  have hMb : M ≤ 40000 := by omega
  clear hnode ih hN hR hcell hMM hM
  go_enter Tryz.func42, Tryz.ntmps42
  go_wp2_with fail
  go_loopg [5, 6, 7] M (fun k v5 v6 v7 wr => ∃ (i : Nat) (b : Bool) (L : ByteArray), i + k = M ∧ v5 = .bool b ∧ v6 = .string L ∧ v7 = .int .i64 (i : Int) ∧ wr = w ∧ Hid (b = hasP (names.take i) ∧ bl L = lstF (names.take i)))
  case atStart => exact ⟨0, false, ⟨#[]⟩, by omega, rfl, rfl, rfl, rfl, hide ⟨rfl, rfl⟩⟩
  case round =>
    obtain ⟨i, b, L, hik, rfl, rfl, rfl, hwr, HI⟩ := hrel
    have hwr := hwr.symm
    subst hwr
    by_cases hlt : i < M
    case pos =>
      have hil : i < names.length := by rw [← HMM.out]; exact hlt
      have hge : names[i]? = some names[i] := List.getElem?_eq_getElem hil
      generalize names[i] = s at hge
      obtain ⟨g, off, rfl, x0⟩ := HCELL.out i s hge
      have htk : names.take (i + 1) = names.take i ++ [s] := by rw [List.take_add_one, hge]; rfl
      obtain ⟨XS, hXS⟩ : ∃ X : ByteArray, X = ⟨s.toArray⟩ := ⟨_, rfl⟩
      rw [← hXS] at x0
      have hS1 : bl XS = s := by rw [hXS]
      have q1 := lit_eq XS [112]
      have q2 := lit_eq XS [108, 105]
      have q3 := lit_eq XS [117, 108]
      have q4 := lit_eq XS [111, 108]
      rw [hS1] at q1 q2 q3 q4
      have HI2 : Hid ((b || decide (s = [112])) = hasP (names.take (i + 1)) ∧ (if s = [108, 105] ∨ s = [117, 108] ∨ s = [111, 108] then s else bl L) = lstF (names.take (i + 1))) := hide (by
        rw [htk, hasP_snoc, lstF_snoc, HI.out.1, HI.out.2]
        exact ⟨rfl, rfl⟩)
      have HS1 := hide hS1
      clear hge htk hXS HI hS1 hil
      by_cases e0 : s = [112]
      · rw [decide_eq_true e0] at q1
        rw [decide_eq_false (fun h => by rw [e0] at h; exact absurd h (by decide))] at q2
        rw [decide_eq_false (fun h => by rw [e0] at h; exact absurd h (by decide))] at q3
        rw [decide_eq_false (fun h => by rw [e0] at h; exact absurd h (by decide))] at q4
        have HF : Hid (∀ b2 : Bool, b2 = (b || true) → b2 = hasP (names.take (i + 1))) := hide (fun b2 h => by rw [h, ← HI2.out.1, decide_eq_true e0])
        have HL2 : Hid (bl L = lstF (names.take (i + 1))) := hide (by rw [← HI2.out.2, if_neg (by rw [e0]; decide)])
        clear HI2
        cases b with
        | true =>
          go_wp2_with fail
          go_roundg (gk - 1)
          case measure => omega
          case rel => exact ⟨i + 1, true, L, by omega, by first | rfl | simp, by first | rfl | simp, by first | rfl | simp, rfl, hide ⟨HF.out _ rfl, HL2.out⟩⟩
        | false =>
          go_wp2_with fail
          go_roundg (gk - 1)
          case measure => omega
          case rel => exact ⟨i + 1, true, L, by omega, by first | rfl | simp, by first | rfl | simp, by first | rfl | simp, rfl, hide ⟨HF.out _ rfl, HL2.out⟩⟩
      rw [decide_eq_false e0] at q1
      by_cases e1 : s = [108, 105]
      · rw [decide_eq_true e1] at q2
        rw [decide_eq_false (fun h => by rw [e1] at h; exact absurd h (by decide))] at q3
        rw [decide_eq_false (fun h => by rw [e1] at h; exact absurd h (by decide))] at q4
        have HF : Hid (∀ b2 : Bool, b2 = (b || false) → b2 = hasP (names.take (i + 1))) := hide (fun b2 h => by rw [h, ← HI2.out.1, decide_eq_false (by rw [e1]; decide)])
        have HL2 : Hid (bl XS = lstF (names.take (i + 1))) := hide (by rw [← HI2.out.2, if_pos (by rw [e1]; decide), HS1.out])
        clear HI2
        cases b with
        | true =>
          go_wp2_with fail
          go_roundg (gk - 1)
          case measure => omega
          case rel => exact ⟨i + 1, true, XS, by omega, by first | rfl | simp, by first | rfl | simp, by first | rfl | simp, rfl, hide ⟨HF.out _ rfl, HL2.out⟩⟩
        | false =>
          go_wp2_with fail
          go_roundg (gk - 1)
          case measure => omega
          case rel => exact ⟨i + 1, false, XS, by omega, by first | rfl | simp, by first | rfl | simp, by first | rfl | simp, rfl, hide ⟨HF.out _ rfl, HL2.out⟩⟩
      rw [decide_eq_false e1] at q2
      by_cases e2 : s = [117, 108]
      · rw [decide_eq_true e2] at q3
        rw [decide_eq_false (fun h => by rw [e2] at h; exact absurd h (by decide))] at q4
        have HF : Hid (∀ b2 : Bool, b2 = (b || false) → b2 = hasP (names.take (i + 1))) := hide (fun b2 h => by rw [h, ← HI2.out.1, decide_eq_false (by rw [e2]; decide)])
        have HL2 : Hid (bl XS = lstF (names.take (i + 1))) := hide (by rw [← HI2.out.2, if_pos (by rw [e2]; decide), HS1.out])
        clear HI2
        cases b with
        | true =>
          go_wp2_with fail
          go_roundg (gk - 1)
          case measure => omega
          case rel => exact ⟨i + 1, true, XS, by omega, by first | rfl | simp, by first | rfl | simp, by first | rfl | simp, rfl, hide ⟨HF.out _ rfl, HL2.out⟩⟩
        | false =>
          go_wp2_with fail
          go_roundg (gk - 1)
          case measure => omega
          case rel => exact ⟨i + 1, false, XS, by omega, by first | rfl | simp, by first | rfl | simp, by first | rfl | simp, rfl, hide ⟨HF.out _ rfl, HL2.out⟩⟩
      rw [decide_eq_false e2] at q3
      by_cases e3 : s = [111, 108]
      · rw [decide_eq_true e3] at q4
        have HF : Hid (∀ b2 : Bool, b2 = (b || false) → b2 = hasP (names.take (i + 1))) := hide (fun b2 h => by rw [h, ← HI2.out.1, decide_eq_false (by rw [e3]; decide)])
        have HL2 : Hid (bl XS = lstF (names.take (i + 1))) := hide (by rw [← HI2.out.2, if_pos (by rw [e3]; decide), HS1.out])
        clear HI2
        cases b with
        | true =>
          go_wp2_with fail
          go_roundg (gk - 1)
          case measure => omega
          case rel => exact ⟨i + 1, true, XS, by omega, by first | rfl | simp, by first | rfl | simp, by first | rfl | simp, rfl, hide ⟨HF.out _ rfl, HL2.out⟩⟩
        | false =>
          go_wp2_with fail
          go_roundg (gk - 1)
          case measure => omega
          case rel => exact ⟨i + 1, false, XS, by omega, by first | rfl | simp, by first | rfl | simp, by first | rfl | simp, rfl, hide ⟨HF.out _ rfl, HL2.out⟩⟩
      rw [decide_eq_false e3] at q4
      have HF : Hid (∀ b2 : Bool, b2 = (b || false) → b2 = hasP (names.take (i + 1))) := hide (fun b2 h => by rw [h, ← HI2.out.1, decide_eq_false e0])
      have HL2 : Hid (bl L = lstF (names.take (i + 1))) := hide (by rw [← HI2.out.2, if_neg (fun h => h.elim e1 (fun h => h.elim e2 e3))])
      clear HI2
      cases b with
      | true =>
        go_wp2_with fail
        go_roundg (gk - 1)
        case measure => omega
        case rel => exact ⟨i + 1, true, L, by omega, by first | rfl | simp, by first | rfl | simp, by first | rfl | simp, rfl, hide ⟨HF.out _ rfl, HL2.out⟩⟩
      | false =>
        go_wp2_with fail
        go_roundg (gk - 1)
        case measure => omega
        case rel => exact ⟨i + 1, false, L, by omega, by first | rfl | simp, by first | rfl | simp, by first | rfl | simp, rfl, hide ⟨HF.out _ rfl, HL2.out⟩⟩
    case neg =>
      have HP : Hid (b = hasP names ∧ bl L = lstF names) := hide (by
        have := HI.out
        rw [List.take_of_length_le (by rw [← HMM.out]; omega)] at this
        exact this)
      have qL : (L.toList == [108, 105]) = inIt names := by
        rw [lit_eq, HP.out.2]
        rfl
      have hb := HP.out.1
      rw [← hb] at HR
      have HBP := hide hb
      obtain ⟨I, hI⟩ : ∃ I, I = inIt names := ⟨_, rfl⟩
      rw [← hI] at qL HR
      have HII := hide hI
      clear HI HP hb hI
      go_wp2_with fail
      go_loopg [8] N (fun k v8 wr => ∃ (j : Nat) (d rest : List Nd) (bb : Bool), rest.length = k ∧ d.length = j ∧ j + k = N ∧ v8 = .int .i64 (j : Int) ∧ Hid (ns = d ++ rest) ∧ Hid (R = stL b I bb rest) ∧ Hid ((j = 0 ∧ bb = false) ∨ ∃ m, 0 < j ∧ ns[j - 1]? = some m ∧ bb = decide (m.name = [])) ∧ Hid (Below w.heap.size w wr))
      case atStart => exact ⟨0, [], ns, false, HN.out.symm, rfl, by omega, rfl, hide rfl, HR, hide (.inl ⟨rfl, rfl⟩), hide (Below.refl _ _)⟩
      case round =>
        obtain ⟨j, d, rest, bb, rfl, hdj, hjk, rfl, HD, HE, HP, HB⟩ := hrel
        match rest, hjk, HD, HE with
        | [], hjk, HD, HE =>
          simp only [List.length_nil, Nat.add_zero] at hjk
          subst hjk
          clear HD hdj
          go_wp2_with fail
          go_ret
          exact ⟨ret_bool (by rw [HE.out]; rfl), HB.out⟩
        | nd :: rest, hjk, HD, HE =>
          have hjN : j < N := by simp only [List.length_cons] at hjk; omega
          have hge : ns[j]? = some nd := by
            rw [HD.out, List.getElem?_append_right (by omega), hdj, Nat.sub_self]
            rfl
          obtain ⟨g, off, ap, am, ac, kp, km, kc, hp, x0, x1, x2, x3, hsz, har, hkk⟩ := HNODE.out j nd hge
          subst hp
          have x0 := cell_keep x0 HB.out
          have x1 := cell_keep x1 HB.out
          have x2 := cell_keep x2 HB.out
          have x3 := cell_keep x3 HB.out
          have hkl : km = nd.kids.length ∧ km ≤ 9223372036854775807 := by
            cases D0 with
            | zero => exact hkk.elim
            | succ n =>
              obtain ⟨_, _, h1, h2, _⟩ := id hkk
              injection h1 with _ h1
              rw [h1]
              exact ⟨rfl, h2⟩
          have hwl : names.length + 1 + wsL nd.kids ≤ 40000 := by
            have h1 := HMS.out
            have h2 := HMM.out
            have h3 : wsL ns = wsL d + (wsN nd + wsL rest) := by rw [HD.out, wsL_app]; rfl
            rw [wsN_kids] at h3
            omega
          obtain ⟨XN, hXN⟩ : ∃ X : ByteArray, X = ⟨nd.name.toArray⟩ := ⟨_, rfl⟩
          obtain ⟨XT, hXT⟩ : ∃ X : ByteArray, X = ⟨nd.text.toArray⟩ := ⟨_, rfl⟩
          rw [← hXN] at x0
          rw [← hXT] at x2
          have q0 : XN.toList.isEmpty = decide (nd.name = []) := by rw [hXN]; exact nm_empty _
          have qT : XT.toList.isEmpty = nd.text.isEmpty := by rw [hXT, ByteArray.toList_eq]
          have hN1 : bl XN = nd.name := by rw [hXN]
          have hNl : XN.size ≤ 281474976710656 := by rw [hXN]; exact hsz.1
          obtain ⟨w2, hw2⟩ : ∃ w2, w2 = wr.alloc (.cells #[.string XN, .slice ap am ac, .string XT, .slice kp km kc] 36) := ⟨_, rfl⟩
          have hb2 : Below wr.heap.size wr w2 := by rw [hw2]; exact (Below.refl _ _).alloc (Nat.le_refl _) _
          have y0 : w2.cell? ⟨wr.heap.size, 0, none⟩ = some (.string XN) := by rw [hw2, new_cell]; rfl
          have y1 : w2.cell? ⟨wr.heap.size, 1, none⟩ = some (.slice ap am ac) := by rw [hw2, new_cell]; rfl
          have y2 : w2.cell? ⟨wr.heap.size, 2, none⟩ = some (.string XT) := by rw [hw2, new_cell]; rfl
          have y3 : w2.cell? ⟨wr.heap.size, 3, none⟩ = some (.slice kp km kc) := by rw [hw2, new_cell]; rfl
          have HB2 := hide (bel2 HB.out hb2)
          have HD2 : Hid (ns = (d ++ [nd]) ++ rest) := hide (by rw [HD.out]; simp)
          have hjk2 : j + (rest.length + 1) = N := hjk
          have hdj2 : (d ++ [nd]).length = j + 1 := by simp [hdj]
          have hE2 : R = (stN b I bb nd && stL b I (decide (nd.name = [])) rest) := by rw [HE.out]; rfl
          have HE2 := hide hE2
          have HP2 : Hid (∀ bq : Bool, bq = decide (nd.name = []) → (j + 1 = 0 ∧ bq = false) ∨ ∃ m, 0 < j + 1 ∧ ns[j + 1 - 1]? = some m ∧ bq = decide (m.name = [])) := hide (fun bq h => .inr ⟨nd, by omega, hge, h⟩)
          have HST := hide (stN_kids b I bb nd)
          have HAE : Hid (nd.attrs.isEmpty = decide (am = 0)) := hide (by rw [har.1.1]; cases nd.attrs <;> simp)
          have HKE : Hid (nd.kids.isEmpty = decide (km = 0)) := hide (by rw [hkl.1]; cases nd.kids <;> simp)
          have ham := har.1.2
          have hkm := hkl.2
          have HAR := hide (har.below HB2.out)
          have HKK := hide (fun wx (hx : Below w.heap.size w wx) => hkk.below hx)
          have HNI := hide hkl.1
          have HPREV : Hid (∀ m, ns[j - 1]? = some m → wr.cell? ⟨g, off + (j - 1) * 4, none⟩ = some (.string ⟨m.name.toArray⟩)) := hide (by
            intro m hm
            obtain ⟨g', off', _, _, _, _, _, _, e, z0, _⟩ := HNODE.out (j - 1) m hm
            injection e with e
            injection e with e1 e2
            subst e1
            subst e2
            exact cell_keep z0 HB.out)
          clear hXN hXT hE2 hkk har HD HE hdj hsz hkl
          go_upto_region 13 with fail
          rw [← hw2]
          clear hw2 x1 x2 x3
          by_cases hnm : nd.name = []
          case pos =>
            as_aux_lemma =>
              rw [decide_eq_true hnm] at q0
              have hE3 := HE2.out
              rw [HST.out, if_pos hnm, HAE.out, HKE.out, decide_eq_true hnm] at hE3
              have HP3 := hide (HP2.out true (decide_eq_true hnm).symm)
              obtain ⟨tE, htE⟩ : ∃ x, x = nd.text.isEmpty := ⟨_, rfl⟩
              rw [← htE] at hE3 qT
              have HE3 := hide hE3
              clear hE3 htE HE2 HST HP2 HAE HKE HAR HKK hN1 hwl
              cases tE with
              | true =>
                have HF : Hid (R = false) := hide (by rw [HE3.out]; rfl)
                clear HE3
                go_wp2_with fail
                all_goals
                  try rw [Exit.noGoto_ret]
                  go_ret
                  exact ⟨ret_bool HF.out.symm, HB2.out⟩
              | false =>
                by_cases ha0 : am = 0
                case neg =>
                  have HF : Hid (R = false) := hide (by rw [HE3.out, decide_eq_false ha0]; simp)
                  have hd1 : decide ((0 : Int) < (am : Int)) = true := decide_eq_true (by omega)
                  clear HE3
                  go_wp2_with fail
                  all_goals
                    try rw [Exit.noGoto_ret]
                    go_ret
                    exact ⟨ret_bool HF.out.symm, HB2.out⟩
                case pos =>
                  subst ha0
                  by_cases hk0 : km = 0
                  case neg =>
                    have HF : Hid (R = false) := hide (by rw [HE3.out, decide_eq_false hk0]; simp)
                    have hd1 : decide ((0 : Int) < (km : Int)) = true := decide_eq_true (by omega)
                    clear HE3
                    go_wp2_with fail
                    all_goals
                      try rw [Exit.noGoto_ret]
                      go_ret
                      exact ⟨ret_bool HF.out.symm, HB2.out⟩
                  case pos =>
                    subst hk0
                    have HE4 : Hid (R = (!bb && stL b I true rest)) := hide (by rw [HE3.out]; simp)
                    clear HE3
                    match j, hjN, hjk2, hdj2, HP, HP3, HPREV with
                    | 0, hjN, hjk2, hdj2, HP, HP3, HPREV =>
                      have hbf : bb = false := by
                        rcases HP.out with h | ⟨m, h, _⟩
                        · exact h.2
                        · omega
                      subst hbf
                      have HE5 : Hid (R = stL b I true rest) := hide HE4.out
                      clear HE4 HP HPREV
                      go_wp2_with fail
                      go_roundg rest.length
                      case measure => first | omega | (simp only [List.length_cons]; omega)
                      case rel => exact ⟨1, d ++ [nd], rest, true, rfl, hdj2, by omega, by first | rfl | simp, HD2, HE5, HP3, HB2⟩
                    | j' + 1, hjN, hjk2, hdj2, HP, HP3, HPREV =>
                      obtain ⟨m, hm1, hm2⟩ : ∃ m, ns[j' + 1 - 1]? = some m ∧ bb = decide (m.name = []) := by
                        rcases HP.out with h | ⟨m, _, h1, h2⟩
                        · omega
                        · exact ⟨m, h1, h2⟩
                      have z0 := HPREV.out m hm1
                      rw [Nat.add_sub_cancel] at z0
                      obtain ⟨XM, hXM⟩ : ∃ X : ByteArray, X = ⟨m.name.toArray⟩ := ⟨_, rfl⟩
                      rw [← hXM] at z0
                      have z0 := cell_keep z0 hb2
                      have qM : XM.toList.isEmpty = bb := by rw [hXM, hm2]; exact nm_empty _
                      clear hXM hm1 hm2 HP HPREV
                      cases bb with
                      | true =>
                        have HF : Hid (R = false) := hide (by rw [HE4.out]; rfl)
                        clear HE4
                        go_wp2_with fail
                        all_goals
                          try rw [Exit.noGoto_ret]
                          go_ret
                          exact ⟨ret_bool HF.out.symm, HB2.out⟩
                      | false =>
                        have HE5 : Hid (R = stL b I true rest) := hide HE4.out
                        clear HE4
                        go_wp2_with fail
                        go_roundg rest.length
                        case measure => first | omega | (simp only [List.length_cons]; omega)
                        case rel => exact ⟨j' + 1 + 1, d ++ [nd], rest, true, rfl, hdj2, by omega, by first | rfl | simp, HD2, HE5, HP3, HB2⟩
          case neg =>
            rw [decide_eq_false hnm] at q0
            have HP3 := hide (HP2.out false (decide_eq_false hnm).symm)
            have hE3 := HE2.out
            rw [HST.out, if_neg hnm, HKE.out, decide_eq_false hnm, ← hN1] at hE3
            obtain ⟨tE, htE⟩ : ∃ x, x = nd.text.isEmpty := ⟨_, rfl⟩
            obtain ⟨mE, hmE⟩ : ∃ x, x = mayE (bl XN) := ⟨_, rfl⟩
            obtain ⟨mA, hmA⟩ : ∃ x, x = mayA nd.attrs := ⟨_, rfl⟩
            obtain ⟨bk, hbk⟩ : ∃ x, x = decide (bl XN ∈ blocks) := ⟨_, rfl⟩
            obtain ⟨lq, hlq⟩ : ∃ x, x = decide (bl XN = [108, 105]) := ⟨_, rfl⟩
            obtain ⟨S, hS⟩ : ∃ x, x = stL (b || decide (bl XN = [112])) (itm I (bl XN)) false nd.kids := ⟨_, rfl⟩
            have hvv : (if bl XN ∈ voids then decide (km = 0) else S) = if decide (bl XN ∈ voids) = true then decide (km = 0) else S := by
              by_cases h : bl XN ∈ voids
              · rw [if_pos h, if_pos (decide_eq_true h)]
              · rw [if_neg h, if_neg (by rw [decide_eq_false h]; decide)]
            rw [← hS, hvv, ← htE, ← hmE, ← hmA, ← hbk, ← hlq] at hE3
            obtain ⟨vd, hvd⟩ : ∃ x, x = decide (bl XN ∈ voids) := ⟨_, rfl⟩
            obtain ⟨T, hT⟩ : ∃ x, x = stL b I false rest := ⟨_, rfl⟩
            rw [← hvd, ← hT] at hE3
            have HEL := hide (fun w => relement_any XN w (by omega))
            rw [← hmE] at HEL
            have HATR := hide (fun wx (hx : Below w2.heap.size w2 wx) => rattrs_any ap am ac nd.attrs wx (HAR.out.below hx))
            rw [← hmA] at HATR
            have HVO := hide (fun w => rvoid_any XN w)
            rw [← hvd] at HVO
            have HBL := hide (fun w => rblock_any XN w)
            rw [← hbk] at HBL
            have q2 := lit_eq XN [108, 105]
            rw [← hlq] at q2
            rw [← htE] at qT
            have HREC : Hid (∀ wx vf, Below w.heap.size w wx → SRow wx vf (names ++ [bl XN]) → Calls Tryz.prog 42 #[.slice kp km kc, vf] wx fun e w' => e = .returned (.bool S) ∧ Below wx.heap.size wx w') := hide (by
              intro wx vf hx hv
              have h := HIH.out wx (.slice kp km kc) nd.kids vf (names ++ [bl XN]) (HKK.out wx hx) hv (by rw [List.length_append]; show names.length + 1 + _ ≤ _; exact hwl)
              rw [hasP_snoc, inIt_snoc, ← HBP.out, ← HII.out, ← hS] at h
              exact h)
            have HKZ : Hid (km = 0 → S = true) := hide (fun h => by
              have : nd.kids = [] := List.length_eq_zero_iff.1 (by rw [← HNI.out]; exact h)
              rw [hS, this]
              rfl)
            have HE3 := hide hE3
            have HT := hide hT
            have HSRW := hide (fun wx (hx : Below w.heap.size w wx) => HSR.out.below hx)
            clear hE3 hvv htE hmE hmA hbk hlq hS hvd hT HE2 HST HP2 HAE HKE HKK hN1 hwl HPREV HP HNI hnm HAR
            have HX1 : Hid ((!(tE && mE && mA && (!vd || decide (km = 0)))) = true → R = false) := hide (by
              intro h
              rw [HE3.out]
              revert h
              cases tE <;> cases mE <;> cases mA <;> cases vd <;> cases (decide (km = 0)) <;> simp)
            have HX2 : Hid ((!(tE && mE && mA && (!vd || decide (km = 0)))) = false → R = (!((b && bk) || (I && lq)) && S && T)) := hide (by
              intro h
              rw [HE3.out]
              by_cases h0 : km = 0
              · rw [HKZ.out h0]
                rw [decide_eq_true h0] at h ⊢
                revert h
                cases tE <;> cases mE <;> cases mA <;> cases vd <;> simp
              · rw [decide_eq_false h0] at h ⊢
                revert h
                cases tE <;> cases mE <;> cases mA <;> cases vd <;> simp)
            clear HE3 HKZ
            go_upto_region 16 with fail
            go_cut [113] from 47 to 139 (fun v113 wc => v113 = .bool (!(tE && mE && mA && (!vd || decide (km = 0)))) ∧ Hid (Below w2.heap.size w2 wc))
            case first =>
              as_aux_lemma =>
                clear HX1 HX2 HREC HBL HSRW HT
                cases tE with
                | false =>
                  go_wp2_with fail
                  all_goals
                    go_meet
                    exact ⟨rfl, hide (Below.refl _ _)⟩
                | true =>
                cases mE with
                | false =>
                  go_wp2_with fail
                  refine (HEL.out _).mono ?_
                  rintro e w3 ⟨rfl, hb3⟩
                  have HB3 := hide hb3
                  clear hb3
                  go_wp2_with fail
                  all_goals
                    go_meet
                    exact ⟨rfl, HB3⟩
                | true =>
                cases mA with
                | false =>
                  go_wp2_with fail
                  refine (HEL.out _).mono ?_
                  rintro e w3 ⟨rfl, hb3⟩
                  have HB3 := hide hb3
                  have y1 := cell_keep y1 hb3
                  have HA3 := hide (HATR.out w3 hb3)
                  clear hb3
                  go_wp2_with fail
                  refine HA3.out.mono ?_
                  rintro e w4 ⟨rfl, hb4⟩
                  have HB4 := hide (bel2 HB3.out hb4)
                  clear hb4
                  go_wp2_with fail
                  all_goals
                    go_meet
                    exact ⟨rfl, HB4⟩
                | true =>
                cases vd with
                | false =>
                  go_wp2_with fail
                  refine (HEL.out _).mono ?_
                  rintro e w3 ⟨rfl, hb3⟩
                  have HB3 := hide hb3
                  have y0 := cell_keep y0 hb3
                  have y1 := cell_keep y1 hb3
                  have HA3 := hide (HATR.out w3 hb3)
                  clear hb3
                  go_wp2_with fail
                  refine HA3.out.mono ?_
                  rintro e w4 ⟨rfl, hb4⟩
                  have HB4 := hide (bel2 HB3.out hb4)
                  have y0 := cell_keep y0 hb4
                  clear hb4
                  go_wp2_with fail
                  refine (HVO.out _).mono ?_
                  rintro e w5 ⟨rfl, hb5⟩
                  have HB5 := hide (bel2 HB4.out hb5)
                  clear hb5
                  go_wp2_with fail
                  all_goals
                    go_meet
                    exact ⟨rfl, HB5⟩
                | true =>
                  go_wp2_with fail
                  refine (HEL.out _).mono ?_
                  rintro e w3 ⟨rfl, hb3⟩
                  have HB3 := hide hb3
                  have y0 := cell_keep y0 hb3
                  have y1 := cell_keep y1 hb3
                  have y3 := cell_keep y3 hb3
                  have HA3 := hide (HATR.out w3 hb3)
                  clear hb3
                  go_wp2_with fail
                  refine HA3.out.mono ?_
                  rintro e w4 ⟨rfl, hb4⟩
                  have HB4 := hide (bel2 HB3.out hb4)
                  have y0 := cell_keep y0 hb4
                  have y3 := cell_keep y3 hb4
                  clear hb4
                  go_wp2_with fail
                  refine (HVO.out _).mono ?_
                  rintro e w5 ⟨rfl, hb5⟩
                  have HB5 := hide (bel2 HB4.out hb5)
                  have y3 := cell_keep y3 hb5
                  clear hb5
                  by_cases h0 : km = 0
                  · subst h0
                    go_wp2_with fail
                    all_goals
                      go_meet
                      exact ⟨rfl, HB5⟩
                  · have hd1 : decide ((0 : Int) < (km : Int)) = true := decide_eq_true (by omega)
                    go_wp2_with fail
                    all_goals
                      go_meet
                      exact ⟨by rw [decide_eq_false h0]; first | rfl | (rw [decide_eq_true (Nat.pos_of_ne_zero h0)]; rfl), HB5⟩
            case rest =>
              obtain ⟨rfl, HBc⟩ := hcut
              have y0 := cell_keep y0 HBc.out
              have y3 := cell_keep y3 HBc.out
              have HB5 := hide (bel2 HB2.out HBc.out)
              clear HEL HATR HVO y1 y2 HBc
              generalize (!(tE && mE && mA && (!vd || decide (km = 0)))) = X at HX1 HX2 ⊢
              cases X with
              | true =>
                have HF := hide (HX1.out (by first | rfl | trivial))
                clear HX1 HX2
                go_wp2_with fail
                all_goals
                  try rw [Exit.noGoto_ret]
                  go_ret
                  exact ⟨ret_bool HF.out.symm, HB5.out⟩
              | false =>
                have HE5 := hide (HX2.out (by first | rfl | trivial))
                clear HX1 HX2
                go_upto_region 18 with fail
                go_cut [128] from 47 to 139 (fun v128 wq => v128 = .bool ((b && bk) || (I && lq)) ∧ Hid (Below wc.heap.size wc wq))
                case first =>
                  as_aux_lemma =>
                    clear HE5 HREC HSRW HT
                    cases b <;> cases bk <;> cases I <;> cases lq <;> (go_wp2_with fail; try (refine (HBL.out _).mono ?_; rintro e w6 ⟨rfl, hb6⟩; have y0 := cell_keep y0 hb6; have HB6 := hide hb6; clear hb6; go_wp2_with fail)) <;> go_meet <;> (first | exact ⟨rfl, HB6⟩ | exact ⟨rfl, hide (Below.refl _ _)⟩)
                case rest =>
                  obtain ⟨rfl, HBd⟩ := hcut
                  have y0 := cell_keep y0 HBd.out
                  have y3 := cell_keep y3 HBd.out
                  have HB6 := hide (bel2 HB5.out HBd.out)
                  clear HBL q2 qL HBd HB5
                  generalize ((b && bk) || (I && lq)) = Y at HE5 ⊢
                  cases Y with
                  | true =>
                    have HF : Hid (R = false) := hide (by rw [HE5.out]; rfl)
                    clear HE5
                    go_wp2_with fail
                    all_goals
                      try rw [Exit.noGoto_ret]
                      go_ret
                      exact ⟨ret_bool HF.out.symm, HB6.out⟩
                  | false =>
                    have HE6 : Hid (R = (S && T)) := hide (by rw [HE5.out]; rfl)
                    clear HE5
                    go_upto_region 20 with fail
                    go_cut [139] from 47 to 139 (fun v139 wq => v139 = .bool (!S) ∧ Hid (Below w.heap.size w wq))
                    case first =>
                      as_aux_lemma =>
                        have HBW := hide (bel2 HB6.out (bel_one wc))
                        obtain ⟨wd, hwd⟩ : ∃ wd, wd = World.drew wc := ⟨_, rfl⟩
                        rw [← hwd] at HBW
                        have y0 : wd.cell? ⟨wr.heap.size, 0, none⟩ = some (.string XN) := by rw [hwd]; exact y0
                        have y3 : wd.cell? ⟨wr.heap.size, 3, none⟩ = some (.slice kp km kc) := by rw [hwd]; exact y3
                        have HY0 := hide y0
                        have HY3 := hide y3
                        have HSD := hide (HSRW.out wd HBW.out)
                        have HBD : Hid (Below wd.heap.size wd wd) := hide (Below.refl _ _)
                        have HMB : Hid (names.length ≤ 40000) := hide (by rw [← HMM.out]; exact hMb)
                        clear HE6 HT HP3 HD2 hjk2 hdj2 HSRW HNODE HIH HB2 HB
                        refine wp_region_any (by kernel_rfl) ?_
                        change wpAny _ _ _ _ _ _ _ (World.drew _)
                        rw [← hwd]
                        clear hwd
                        refine wpAny_at (i := 0) (v := .pointer (some ⟨wr.heap.size, 3, none⟩)) (a' := ?ax0q1) rfl (by kernel_rfl) (by kernel_rfl) (by kernel_rfl) (fun _ _ _ h => h) (Or.inl ⟨by rfl, ?yi⟩) ?ha ?_
                        case yi => intro w; go_simp; try omega
                        case ha => go_simp; exact rfl
                        refine wpAny_at (i := 3) (v := .slice pi M ci) (a' := ?ax3q2) rfl (by kernel_rfl) (by kernel_rfl) (by kernel_rfl) (fun _ _ _ h => h) (Or.inl ⟨by rfl, ?yi⟩) ?ha ?_
                        case yi => intro w; go_simp; try omega
                        case ha => go_simp; exact rfl
                        refine wpAny_at (i := 5) (v := .pointer (some ⟨wr.heap.size, 0, none⟩)) (a' := ?ax5q3) rfl (by kernel_rfl) (by kernel_rfl) (by kernel_rfl) (fun _ _ _ h => h) (Or.inl ⟨by rfl, ?yi⟩) ?ha ?_
                        case yi => intro w; go_simp; try omega
                        case ha => go_simp; exact rfl
                        refine wpAny_ready (rs := [1, 2, 6]) (by kernel_rfl) (by simp) ?_
                        refine AllReady.cons rfl (fun K hK => ?_) (AllReady.cons rfl (fun K hK => ?_) (AllReady.cons rfl (fun K hK => ?_) AllReady.nil))
                        · as_aux_lemma =>
                            go_simp
                            go_wp2_with fail
                            refine wpAny_ready (rs := [2, 6]) (by kernel_rfl) (by simp) ?_
                            refine AllReady.cons rfl (fun K hK => ?_) (AllReady.cons rfl (fun K hK => ?_) AllReady.nil)
                            · obtain ⟨gA, hgA⟩ : ∃ gA, gA = wd.heap.size := ⟨_, rfl⟩
                              obtain ⟨wz107, hwz107⟩ : ∃ x, x = wd.alloc (.cells #[] 9) := ⟨_, rfl⟩
                              have hbwz107 : Below wd.heap.size wd wz107 := by rw [hwz107]; exact (Below.refl _ _).alloc (Nat.le_refl _) _
                              have HA : Hid (wz107.ownsRow wd.heap.size 9 1 (.slice (some ⟨gA, 0, none⟩) 0 0) 0 []) := hide (by rw [hwz107, hgA]; exact World.ownsRow_made wd #[] 0 HBD.out.size (by decide) rfl)
                              have HBD := hide (bel2 HBD.out hbwz107)
                              have y0 := cell_keep HY0.out HBD.out
                              have y3 := cell_keep HY3.out HBD.out
                              go_simp
                              go_wp2_with fail
                              rw [← hwz107, ← hgA]
                              clear hwz107 hbwz107 hgA
                              refine wpAny_ready (rs := [4, 6]) (by kernel_rfl) (by simp) ?_
                              refine AllReady.cons rfl (fun K hK => ?_) (AllReady.cons rfl (fun K hK => ?_) AllReady.nil)
                              · rw [if_pos (by rfl)]
                                refine wp_append_strs (.tmp 131) (.tmp 132) rfl wd wz107 (.slice (some ⟨gA, 0, none⟩) 0 0) (.slice pi M ci) names rfl rfl HBD.out HA.out (fun h => by cases h) HSD.out (by have := HMB.out; omega) ?_
                                intro va wz108 ho hv hbd hgr
                                have HBD := hide hbd
                                have y0 := cell_keep HY0.out HBD.out
                                have y3 := cell_keep HY3.out HBD.out
                                obtain ⟨pa, ca, rfl⟩ := own_len ho
                                have HA := hide ho
                                have HV := hide hv
                                clear ho hv hbd hgr
                                refine hK _ _ ?_
                                clear hK K
                                refine wpAny_ready (rs := [6]) (by kernel_rfl) (by simp) ?_
                                refine AllReady.cons rfl (fun K hK => ?_) AllReady.nil
                                go_simp
                                go_wp2_with fail
                                refine wpAny_ready (rs := [7]) (by kernel_rfl) (by simp) ?_
                                refine AllReady.cons rfl (fun K hK => ?_) AllReady.nil
                                obtain ⟨wz109, hwz109⟩ : ∃ x, x = wz108.alloc (.cells #[.string XN] 9) := ⟨_, rfl⟩
                                have hbwz109 : Below wz108.heap.size wz108 wz109 := by rw [hwz109]; exact (Below.refl _ _).alloc (Nat.le_refl _) _
                                have HN : Hid (wz109.cell? ⟨wz108.heap.size, 0, none⟩ = some (.string XN)) := hide (by rw [hwz109, new_cell]; rfl)
                                have HA := hide (own_below HA.out hbwz109)
                                have HBD := hide (bel2 HBD.out hbwz109)
                                have y0 := cell_keep HY0.out HBD.out
                                have y3 := cell_keep HY3.out HBD.out
                                go_simp
                                go_wp2_with fail
                                rw [← hwz109]
                                clear hwz109 hbwz109
                                obtain ⟨gN, hgN⟩ : ∃ gN, gN = wz108.heap.size := ⟨_, rfl⟩
                                rw [← hgN] at HN ⊢
                                clear hgN
                                refine wpAny_ready (rs := [8]) (by kernel_rfl) (by simp) ?_
                                refine AllReady.cons rfl (fun K hK => ?_) AllReady.nil
                                rw [if_pos (by rfl)]
                                refine wp_append_str1 (.tmp 133) (.tmp 136) rfl wd wz109 _ names XN gN rfl rfl HBD.out HA.out HV.out HN.out (by have := HMB.out; omega) ?_
                                intro vf wz110 hsr hbd
                                have HBD := hide hbd
                                have y0 := cell_keep HY0.out HBD.out
                                have y3 := cell_keep HY3.out HBD.out
                                obtain ⟨pf, cf, hvf, -⟩ := id hsr
                                obtain ⟨LN, hLN⟩ : ∃ n, n = (names ++ [bl XN]).length := ⟨_, rfl⟩
                                rw [← hLN] at hvf
                                clear hLN
                                subst hvf
                                have HSF := hide hsr
                                clear hsr hbd
                                refine hK _ _ ?_
                                clear hK K
                                as_aux_lemma =>
                                  refine wpAny_ready (rs := [9]) (by kernel_rfl) (by simp) ?_
                                  refine AllReady.cons rfl (fun K hK => ?_) AllReady.nil
                                  go_simp
                                  go_wp2_with fail
                                  refine (HREC.out wz110 _ (bel2 HBW.out HBD.out) HSF.out).mono ?_
                                  rintro e wz111 ⟨rfl, hbx⟩
                                  have HBE := hide (bel2 (bel2 HBW.out HBD.out) hbx)
                                  clear hbx
                                  go_wp2_with fail
                                  refine wpAny_at (i := 10) (v := .bool (!S)) (a' := ?ax10q34) rfl (by kernel_rfl) (by kernel_rfl) (by kernel_rfl) (fun _ _ _ h => h) (Or.inl ⟨by rfl, ?yi⟩) ?ha ?_
                                  case yi => intro w; go_simp; try omega
                                  case ha => go_simp; exact rfl
                                  refine wpAny_done (by kernel_rfl) ?_ _
                                  go_wp2_with fail
                                  go_meet
                                  exact ⟨rfl, HBE⟩
                              · go_simp
                                go_wp2_with fail
                                refine wpAny_ready (rs := [4, 7]) (by kernel_rfl) (by simp) ?_
                                refine AllReady.cons rfl (fun K hK => ?_) (AllReady.cons rfl (fun K hK => ?_) AllReady.nil)
                                · rw [if_pos (by rfl)]
                                  refine wp_append_strs (.tmp 131) (.tmp 132) rfl wd wz107 (.slice (some ⟨gA, 0, none⟩) 0 0) (.slice pi M ci) names rfl rfl HBD.out HA.out (fun h => by cases h) HSD.out (by have := HMB.out; omega) ?_
                                  intro va wz112 ho hv hbd hgr
                                  have HBD := hide hbd
                                  have y0 := cell_keep HY0.out HBD.out
                                  have y3 := cell_keep HY3.out HBD.out
                                  obtain ⟨pa, ca, rfl⟩ := own_len ho
                                  have HA := hide ho
                                  have HV := hide hv
                                  clear ho hv hbd hgr
                                  refine hK _ _ ?_
                                  clear hK K
                                  refine wpAny_ready (rs := [7]) (by kernel_rfl) (by simp) ?_
                                  refine AllReady.cons rfl (fun K hK => ?_) AllReady.nil
                                  obtain ⟨wz113, hwz113⟩ : ∃ x, x = wz112.alloc (.cells #[.string XN] 9) := ⟨_, rfl⟩
                                  have hbwz113 : Below wz112.heap.size wz112 wz113 := by rw [hwz113]; exact (Below.refl _ _).alloc (Nat.le_refl _) _
                                  have HN : Hid (wz113.cell? ⟨wz112.heap.size, 0, none⟩ = some (.string XN)) := hide (by rw [hwz113, new_cell]; rfl)
                                  have HA := hide (own_below HA.out hbwz113)
                                  have HBD := hide (bel2 HBD.out hbwz113)
                                  have y0 := cell_keep HY0.out HBD.out
                                  have y3 := cell_keep HY3.out HBD.out
                                  go_simp
                                  go_wp2_with fail
                                  rw [← hwz113]
                                  clear hwz113 hbwz113
                                  obtain ⟨gN, hgN⟩ : ∃ gN, gN = wz112.heap.size := ⟨_, rfl⟩
                                  rw [← hgN] at HN ⊢
                                  clear hgN
                                  refine wpAny_ready (rs := [8]) (by kernel_rfl) (by simp) ?_
                                  refine AllReady.cons rfl (fun K hK => ?_) AllReady.nil
                                  rw [if_pos (by rfl)]
                                  refine wp_append_str1 (.tmp 133) (.tmp 136) rfl wd wz113 _ names XN gN rfl rfl HBD.out HA.out HV.out HN.out (by have := HMB.out; omega) ?_
                                  intro vf wz114 hsr hbd
                                  have HBD := hide hbd
                                  have y0 := cell_keep HY0.out HBD.out
                                  have y3 := cell_keep HY3.out HBD.out
                                  obtain ⟨pf, cf, hvf, -⟩ := id hsr
                                  obtain ⟨LN, hLN⟩ : ∃ n, n = (names ++ [bl XN]).length := ⟨_, rfl⟩
                                  rw [← hLN] at hvf
                                  clear hLN
                                  subst hvf
                                  have HSF := hide hsr
                                  clear hsr hbd
                                  refine hK _ _ ?_
                                  clear hK K
                                  as_aux_lemma =>
                                    refine wpAny_ready (rs := [9]) (by kernel_rfl) (by simp) ?_
                                    refine AllReady.cons rfl (fun K hK => ?_) AllReady.nil
                                    go_simp
                                    go_wp2_with fail
                                    refine (HREC.out wz114 _ (bel2 HBW.out HBD.out) HSF.out).mono ?_
                                    rintro e wz115 ⟨rfl, hbx⟩
                                    have HBE := hide (bel2 (bel2 HBW.out HBD.out) hbx)
                                    clear hbx
                                    go_wp2_with fail
                                    refine wpAny_at (i := 10) (v := .bool (!S)) (a' := ?ax10q35) rfl (by kernel_rfl) (by kernel_rfl) (by kernel_rfl) (fun _ _ _ h => h) (Or.inl ⟨by rfl, ?yi⟩) ?ha ?_
                                    case yi => intro w; go_simp; try omega
                                    case ha => go_simp; exact rfl
                                    refine wpAny_done (by kernel_rfl) ?_ _
                                    go_wp2_with fail
                                    go_meet
                                    exact ⟨rfl, HBE⟩
                                · obtain ⟨wz116, hwz116⟩ : ∃ x, x = wz107.alloc (.cells #[.string XN] 9) := ⟨_, rfl⟩
                                  have hbwz116 : Below wz107.heap.size wz107 wz116 := by rw [hwz116]; exact (Below.refl _ _).alloc (Nat.le_refl _) _
                                  have HN : Hid (wz116.cell? ⟨wz107.heap.size, 0, none⟩ = some (.string XN)) := hide (by rw [hwz116, new_cell]; rfl)
                                  have HGN : Hid (wz107.heap.size ≠ gA) := hide (Ne.symm (Nat.ne_of_lt (HA.out.lt gA rfl).2))
                                  have HA := hide (own_below HA.out hbwz116)
                                  have HBD := hide (bel2 HBD.out hbwz116)
                                  have y0 := cell_keep HY0.out HBD.out
                                  have y3 := cell_keep HY3.out HBD.out
                                  go_simp
                                  go_wp2_with fail
                                  rw [← hwz116]
                                  clear hwz116 hbwz116
                                  obtain ⟨gN, hgN⟩ : ∃ gN, gN = wz107.heap.size := ⟨_, rfl⟩
                                  rw [← hgN] at HN HGN ⊢
                                  clear hgN
                                  refine wpAny_ready (rs := [4]) (by kernel_rfl) (by simp) ?_
                                  refine AllReady.cons rfl (fun K hK => ?_) AllReady.nil
                                  rw [if_pos (by rfl)]
                                  refine wp_append_strs (.tmp 131) (.tmp 132) rfl wd wz116 (.slice (some ⟨gA, 0, none⟩) 0 0) (.slice pi M ci) names rfl rfl HBD.out HA.out (fun h => by cases h) HSD.out (by have := HMB.out; omega) ?_
                                  intro va wz117 ho hv hbd hgr
                                  have HN := hide (grown_cell HN.out hgr HGN.out)
                                  have HBD := hide hbd
                                  have y0 := cell_keep HY0.out HBD.out
                                  have y3 := cell_keep HY3.out HBD.out
                                  obtain ⟨pa, ca, rfl⟩ := own_len ho
                                  have HA := hide ho
                                  have HV := hide hv
                                  clear ho hv hbd hgr
                                  refine hK _ _ ?_
                                  clear hK K
                                  refine wpAny_ready (rs := [8]) (by kernel_rfl) (by simp) ?_
                                  refine AllReady.cons rfl (fun K hK => ?_) AllReady.nil
                                  rw [if_pos (by rfl)]
                                  refine wp_append_str1 (.tmp 133) (.tmp 136) rfl wd wz117 _ names XN gN rfl rfl HBD.out HA.out HV.out HN.out (by have := HMB.out; omega) ?_
                                  intro vf wz118 hsr hbd
                                  have HBD := hide hbd
                                  have y0 := cell_keep HY0.out HBD.out
                                  have y3 := cell_keep HY3.out HBD.out
                                  obtain ⟨pf, cf, hvf, -⟩ := id hsr
                                  obtain ⟨LN, hLN⟩ : ∃ n, n = (names ++ [bl XN]).length := ⟨_, rfl⟩
                                  rw [← hLN] at hvf
                                  clear hLN
                                  subst hvf
                                  have HSF := hide hsr
                                  clear hsr hbd
                                  refine hK _ _ ?_
                                  clear hK K
                                  as_aux_lemma =>
                                    refine wpAny_ready (rs := [9]) (by kernel_rfl) (by simp) ?_
                                    refine AllReady.cons rfl (fun K hK => ?_) AllReady.nil
                                    go_simp
                                    go_wp2_with fail
                                    refine (HREC.out wz118 _ (bel2 HBW.out HBD.out) HSF.out).mono ?_
                                    rintro e wz119 ⟨rfl, hbx⟩
                                    have HBE := hide (bel2 (bel2 HBW.out HBD.out) hbx)
                                    clear hbx
                                    go_wp2_with fail
                                    refine wpAny_at (i := 10) (v := .bool (!S)) (a' := ?ax10q36) rfl (by kernel_rfl) (by kernel_rfl) (by kernel_rfl) (fun _ _ _ h => h) (Or.inl ⟨by rfl, ?yi⟩) ?ha ?_
                                    case yi => intro w; go_simp; try omega
                                    case ha => go_simp; exact rfl
                                    refine wpAny_done (by kernel_rfl) ?_ _
                                    go_wp2_with fail
                                    go_meet
                                    exact ⟨rfl, HBE⟩
                            · go_simp
                              go_wp2_with fail
                              refine wpAny_ready (rs := [2, 7]) (by kernel_rfl) (by simp) ?_
                              refine AllReady.cons rfl (fun K hK => ?_) (AllReady.cons rfl (fun K hK => ?_) AllReady.nil)
                              · obtain ⟨gA, hgA⟩ : ∃ gA, gA = wd.heap.size := ⟨_, rfl⟩
                                obtain ⟨wz120, hwz120⟩ : ∃ x, x = wd.alloc (.cells #[] 9) := ⟨_, rfl⟩
                                have hbwz120 : Below wd.heap.size wd wz120 := by rw [hwz120]; exact (Below.refl _ _).alloc (Nat.le_refl _) _
                                have HA : Hid (wz120.ownsRow wd.heap.size 9 1 (.slice (some ⟨gA, 0, none⟩) 0 0) 0 []) := hide (by rw [hwz120, hgA]; exact World.ownsRow_made wd #[] 0 HBD.out.size (by decide) rfl)
                                have HBD := hide (bel2 HBD.out hbwz120)
                                have y0 := cell_keep HY0.out HBD.out
                                have y3 := cell_keep HY3.out HBD.out
                                go_simp
                                go_wp2_with fail
                                rw [← hwz120, ← hgA]
                                clear hwz120 hbwz120 hgA
                                refine wpAny_ready (rs := [4, 7]) (by kernel_rfl) (by simp) ?_
                                refine AllReady.cons rfl (fun K hK => ?_) (AllReady.cons rfl (fun K hK => ?_) AllReady.nil)
                                · rw [if_pos (by rfl)]
                                  refine wp_append_strs (.tmp 131) (.tmp 132) rfl wd wz120 (.slice (some ⟨gA, 0, none⟩) 0 0) (.slice pi M ci) names rfl rfl HBD.out HA.out (fun h => by cases h) HSD.out (by have := HMB.out; omega) ?_
                                  intro va wz121 ho hv hbd hgr
                                  have HBD := hide hbd
                                  have y0 := cell_keep HY0.out HBD.out
                                  have y3 := cell_keep HY3.out HBD.out
                                  obtain ⟨pa, ca, rfl⟩ := own_len ho
                                  have HA := hide ho
                                  have HV := hide hv
                                  clear ho hv hbd hgr
                                  refine hK _ _ ?_
                                  clear hK K
                                  refine wpAny_ready (rs := [7]) (by kernel_rfl) (by simp) ?_
                                  refine AllReady.cons rfl (fun K hK => ?_) AllReady.nil
                                  obtain ⟨wz122, hwz122⟩ : ∃ x, x = wz121.alloc (.cells #[.string XN] 9) := ⟨_, rfl⟩
                                  have hbwz122 : Below wz121.heap.size wz121 wz122 := by rw [hwz122]; exact (Below.refl _ _).alloc (Nat.le_refl _) _
                                  have HN : Hid (wz122.cell? ⟨wz121.heap.size, 0, none⟩ = some (.string XN)) := hide (by rw [hwz122, new_cell]; rfl)
                                  have HA := hide (own_below HA.out hbwz122)
                                  have HBD := hide (bel2 HBD.out hbwz122)
                                  have y0 := cell_keep HY0.out HBD.out
                                  have y3 := cell_keep HY3.out HBD.out
                                  go_simp
                                  go_wp2_with fail
                                  rw [← hwz122]
                                  clear hwz122 hbwz122
                                  obtain ⟨gN, hgN⟩ : ∃ gN, gN = wz121.heap.size := ⟨_, rfl⟩
                                  rw [← hgN] at HN ⊢
                                  clear hgN
                                  refine wpAny_ready (rs := [8]) (by kernel_rfl) (by simp) ?_
                                  refine AllReady.cons rfl (fun K hK => ?_) AllReady.nil
                                  rw [if_pos (by rfl)]
                                  refine wp_append_str1 (.tmp 133) (.tmp 136) rfl wd wz122 _ names XN gN rfl rfl HBD.out HA.out HV.out HN.out (by have := HMB.out; omega) ?_
                                  intro vf wz123 hsr hbd
                                  have HBD := hide hbd
                                  have y0 := cell_keep HY0.out HBD.out
                                  have y3 := cell_keep HY3.out HBD.out
                                  obtain ⟨pf, cf, hvf, -⟩ := id hsr
                                  obtain ⟨LN, hLN⟩ : ∃ n, n = (names ++ [bl XN]).length := ⟨_, rfl⟩
                                  rw [← hLN] at hvf
                                  clear hLN
                                  subst hvf
                                  have HSF := hide hsr
                                  clear hsr hbd
                                  refine hK _ _ ?_
                                  clear hK K
                                  as_aux_lemma =>
                                    refine wpAny_ready (rs := [9]) (by kernel_rfl) (by simp) ?_
                                    refine AllReady.cons rfl (fun K hK => ?_) AllReady.nil
                                    go_simp
                                    go_wp2_with fail
                                    refine (HREC.out wz123 _ (bel2 HBW.out HBD.out) HSF.out).mono ?_
                                    rintro e wz124 ⟨rfl, hbx⟩
                                    have HBE := hide (bel2 (bel2 HBW.out HBD.out) hbx)
                                    clear hbx
                                    go_wp2_with fail
                                    refine wpAny_at (i := 10) (v := .bool (!S)) (a' := ?ax10q37) rfl (by kernel_rfl) (by kernel_rfl) (by kernel_rfl) (fun _ _ _ h => h) (Or.inl ⟨by rfl, ?yi⟩) ?ha ?_
                                    case yi => intro w; go_simp; try omega
                                    case ha => go_simp; exact rfl
                                    refine wpAny_done (by kernel_rfl) ?_ _
                                    go_wp2_with fail
                                    go_meet
                                    exact ⟨rfl, HBE⟩
                                · obtain ⟨wz125, hwz125⟩ : ∃ x, x = wz120.alloc (.cells #[.string XN] 9) := ⟨_, rfl⟩
                                  have hbwz125 : Below wz120.heap.size wz120 wz125 := by rw [hwz125]; exact (Below.refl _ _).alloc (Nat.le_refl _) _
                                  have HN : Hid (wz125.cell? ⟨wz120.heap.size, 0, none⟩ = some (.string XN)) := hide (by rw [hwz125, new_cell]; rfl)
                                  have HGN : Hid (wz120.heap.size ≠ gA) := hide (Ne.symm (Nat.ne_of_lt (HA.out.lt gA rfl).2))
                                  have HA := hide (own_below HA.out hbwz125)
                                  have HBD := hide (bel2 HBD.out hbwz125)
                                  have y0 := cell_keep HY0.out HBD.out
                                  have y3 := cell_keep HY3.out HBD.out
                                  go_simp
                                  go_wp2_with fail
                                  rw [← hwz125]
                                  clear hwz125 hbwz125
                                  obtain ⟨gN, hgN⟩ : ∃ gN, gN = wz120.heap.size := ⟨_, rfl⟩
                                  rw [← hgN] at HN HGN ⊢
                                  clear hgN
                                  refine wpAny_ready (rs := [4]) (by kernel_rfl) (by simp) ?_
                                  refine AllReady.cons rfl (fun K hK => ?_) AllReady.nil
                                  rw [if_pos (by rfl)]
                                  refine wp_append_strs (.tmp 131) (.tmp 132) rfl wd wz125 (.slice (some ⟨gA, 0, none⟩) 0 0) (.slice pi M ci) names rfl rfl HBD.out HA.out (fun h => by cases h) HSD.out (by have := HMB.out; omega) ?_
                                  intro va wz126 ho hv hbd hgr
                                  have HN := hide (grown_cell HN.out hgr HGN.out)
                                  have HBD := hide hbd
                                  have y0 := cell_keep HY0.out HBD.out
                                  have y3 := cell_keep HY3.out HBD.out
                                  obtain ⟨pa, ca, rfl⟩ := own_len ho
                                  have HA := hide ho
                                  have HV := hide hv
                                  clear ho hv hbd hgr
                                  refine hK _ _ ?_
                                  clear hK K
                                  refine wpAny_ready (rs := [8]) (by kernel_rfl) (by simp) ?_
                                  refine AllReady.cons rfl (fun K hK => ?_) AllReady.nil
                                  rw [if_pos (by rfl)]
                                  refine wp_append_str1 (.tmp 133) (.tmp 136) rfl wd wz126 _ names XN gN rfl rfl HBD.out HA.out HV.out HN.out (by have := HMB.out; omega) ?_
                                  intro vf wz127 hsr hbd
                                  have HBD := hide hbd
                                  have y0 := cell_keep HY0.out HBD.out
                                  have y3 := cell_keep HY3.out HBD.out
                                  obtain ⟨pf, cf, hvf, -⟩ := id hsr
                                  obtain ⟨LN, hLN⟩ : ∃ n, n = (names ++ [bl XN]).length := ⟨_, rfl⟩
                                  rw [← hLN] at hvf
                                  clear hLN
                                  subst hvf
                                  have HSF := hide hsr
                                  clear hsr hbd
                                  refine hK _ _ ?_
                                  clear hK K
                                  as_aux_lemma =>
                                    refine wpAny_ready (rs := [9]) (by kernel_rfl) (by simp) ?_
                                    refine AllReady.cons rfl (fun K hK => ?_) AllReady.nil
                                    go_simp
                                    go_wp2_with fail
                                    refine (HREC.out wz127 _ (bel2 HBW.out HBD.out) HSF.out).mono ?_
                                    rintro e wz128 ⟨rfl, hbx⟩
                                    have HBE := hide (bel2 (bel2 HBW.out HBD.out) hbx)
                                    clear hbx
                                    go_wp2_with fail
                                    refine wpAny_at (i := 10) (v := .bool (!S)) (a' := ?ax10q38) rfl (by kernel_rfl) (by kernel_rfl) (by kernel_rfl) (fun _ _ _ h => h) (Or.inl ⟨by rfl, ?yi⟩) ?ha ?_
                                    case yi => intro w; go_simp; try omega
                                    case ha => go_simp; exact rfl
                                    refine wpAny_done (by kernel_rfl) ?_ _
                                    go_wp2_with fail
                                    go_meet
                                    exact ⟨rfl, HBE⟩
                              · obtain ⟨wz129, hwz129⟩ : ∃ x, x = wd.alloc (.cells #[.string XN] 9) := ⟨_, rfl⟩
                                have hbwz129 : Below wd.heap.size wd wz129 := by rw [hwz129]; exact (Below.refl _ _).alloc (Nat.le_refl _) _
                                have HN : Hid (wz129.cell? ⟨wd.heap.size, 0, none⟩ = some (.string XN)) := hide (by rw [hwz129, new_cell]; rfl)
                                have HBD := hide (bel2 HBD.out hbwz129)
                                have y0 := cell_keep HY0.out HBD.out
                                have y3 := cell_keep HY3.out HBD.out
                                go_simp
                                go_wp2_with fail
                                rw [← hwz129]
                                clear hwz129 hbwz129
                                obtain ⟨gN, hgN⟩ : ∃ gN, gN = wd.heap.size := ⟨_, rfl⟩
                                rw [← hgN] at HN ⊢
                                clear hgN
                                refine wpAny_ready (rs := [2]) (by kernel_rfl) (by simp) ?_
                                refine AllReady.cons rfl (fun K hK => ?_) AllReady.nil
                                obtain ⟨gA, hgA⟩ : ∃ gA, gA = wz129.heap.size := ⟨_, rfl⟩
                                obtain ⟨wz130, hwz130⟩ : ∃ x, x = wz129.alloc (.cells #[] 9) := ⟨_, rfl⟩
                                have hbwz130 : Below wz129.heap.size wz129 wz130 := by rw [hwz130]; exact (Below.refl _ _).alloc (Nat.le_refl _) _
                                have HA : Hid (wz130.ownsRow wd.heap.size 9 1 (.slice (some ⟨gA, 0, none⟩) 0 0) 0 []) := hide (by rw [hwz130, hgA]; exact World.ownsRow_made wz129 #[] 0 HBD.out.size (by decide) rfl)
                                have HGN : Hid (gN ≠ gA) := hide (by rw [hgA]; exact Nat.ne_of_lt (cell_lt HN.out))
                                have HN := hide (cell_keep HN.out hbwz130)
                                have HBD := hide (bel2 HBD.out hbwz130)
                                have y0 := cell_keep HY0.out HBD.out
                                have y3 := cell_keep HY3.out HBD.out
                                go_simp
                                go_wp2_with fail
                                rw [← hwz130, ← hgA]
                                clear hwz130 hbwz130 hgA
                                refine wpAny_ready (rs := [4]) (by kernel_rfl) (by simp) ?_
                                refine AllReady.cons rfl (fun K hK => ?_) AllReady.nil
                                rw [if_pos (by rfl)]
                                refine wp_append_strs (.tmp 131) (.tmp 132) rfl wd wz130 (.slice (some ⟨gA, 0, none⟩) 0 0) (.slice pi M ci) names rfl rfl HBD.out HA.out (fun h => by cases h) HSD.out (by have := HMB.out; omega) ?_
                                intro va wz131 ho hv hbd hgr
                                have HN := hide (grown_cell HN.out hgr HGN.out)
                                have HBD := hide hbd
                                have y0 := cell_keep HY0.out HBD.out
                                have y3 := cell_keep HY3.out HBD.out
                                obtain ⟨pa, ca, rfl⟩ := own_len ho
                                have HA := hide ho
                                have HV := hide hv
                                clear ho hv hbd hgr
                                refine hK _ _ ?_
                                clear hK K
                                refine wpAny_ready (rs := [8]) (by kernel_rfl) (by simp) ?_
                                refine AllReady.cons rfl (fun K hK => ?_) AllReady.nil
                                rw [if_pos (by rfl)]
                                refine wp_append_str1 (.tmp 133) (.tmp 136) rfl wd wz131 _ names XN gN rfl rfl HBD.out HA.out HV.out HN.out (by have := HMB.out; omega) ?_
                                intro vf wz132 hsr hbd
                                have HBD := hide hbd
                                have y0 := cell_keep HY0.out HBD.out
                                have y3 := cell_keep HY3.out HBD.out
                                obtain ⟨pf, cf, hvf, -⟩ := id hsr
                                obtain ⟨LN, hLN⟩ : ∃ n, n = (names ++ [bl XN]).length := ⟨_, rfl⟩
                                rw [← hLN] at hvf
                                clear hLN
                                subst hvf
                                have HSF := hide hsr
                                clear hsr hbd
                                refine hK _ _ ?_
                                clear hK K
                                as_aux_lemma =>
                                  refine wpAny_ready (rs := [9]) (by kernel_rfl) (by simp) ?_
                                  refine AllReady.cons rfl (fun K hK => ?_) AllReady.nil
                                  go_simp
                                  go_wp2_with fail
                                  refine (HREC.out wz132 _ (bel2 HBW.out HBD.out) HSF.out).mono ?_
                                  rintro e wz133 ⟨rfl, hbx⟩
                                  have HBE := hide (bel2 (bel2 HBW.out HBD.out) hbx)
                                  clear hbx
                                  go_wp2_with fail
                                  refine wpAny_at (i := 10) (v := .bool (!S)) (a' := ?ax10q39) rfl (by kernel_rfl) (by kernel_rfl) (by kernel_rfl) (fun _ _ _ h => h) (Or.inl ⟨by rfl, ?yi⟩) ?ha ?_
                                  case yi => intro w; go_simp; try omega
                                  case ha => go_simp; exact rfl
                                  refine wpAny_done (by kernel_rfl) ?_ _
                                  go_wp2_with fail
                                  go_meet
                                  exact ⟨rfl, HBE⟩
                        · as_aux_lemma =>
                            obtain ⟨gA, hgA⟩ : ∃ gA, gA = wd.heap.size := ⟨_, rfl⟩
                            obtain ⟨wz1, hwz1⟩ : ∃ x, x = wd.alloc (.cells #[] 9) := ⟨_, rfl⟩
                            have hbwz1 : Below wd.heap.size wd wz1 := by rw [hwz1]; exact (Below.refl _ _).alloc (Nat.le_refl _) _
                            have HA : Hid (wz1.ownsRow wd.heap.size 9 1 (.slice (some ⟨gA, 0, none⟩) 0 0) 0 []) := hide (by rw [hwz1, hgA]; exact World.ownsRow_made wd #[] 0 HBD.out.size (by decide) rfl)
                            have HBD := hide (bel2 HBD.out hbwz1)
                            have y0 := cell_keep HY0.out HBD.out
                            have y3 := cell_keep HY3.out HBD.out
                            go_simp
                            go_wp2_with fail
                            rw [← hwz1, ← hgA]
                            clear hwz1 hbwz1 hgA
                            refine wpAny_ready (rs := [1, 4, 6]) (by kernel_rfl) (by simp) ?_
                            refine AllReady.cons rfl (fun K hK => ?_) (AllReady.cons rfl (fun K hK => ?_) (AllReady.cons rfl (fun K hK => ?_) AllReady.nil))
                            · go_simp
                              go_wp2_with fail
                              refine wpAny_ready (rs := [4, 6]) (by kernel_rfl) (by simp) ?_
                              refine AllReady.cons rfl (fun K hK => ?_) (AllReady.cons rfl (fun K hK => ?_) AllReady.nil)
                              · rw [if_pos (by rfl)]
                                refine wp_append_strs (.tmp 131) (.tmp 132) rfl wd wz1 (.slice (some ⟨gA, 0, none⟩) 0 0) (.slice pi M ci) names rfl rfl HBD.out HA.out (fun h => by cases h) HSD.out (by have := HMB.out; omega) ?_
                                intro va wz40 ho hv hbd hgr
                                have HBD := hide hbd
                                have y0 := cell_keep HY0.out HBD.out
                                have y3 := cell_keep HY3.out HBD.out
                                obtain ⟨pa, ca, rfl⟩ := own_len ho
                                have HA := hide ho
                                have HV := hide hv
                                clear ho hv hbd hgr
                                refine hK _ _ ?_
                                clear hK K
                                refine wpAny_ready (rs := [6]) (by kernel_rfl) (by simp) ?_
                                refine AllReady.cons rfl (fun K hK => ?_) AllReady.nil
                                go_simp
                                go_wp2_with fail
                                refine wpAny_ready (rs := [7]) (by kernel_rfl) (by simp) ?_
                                refine AllReady.cons rfl (fun K hK => ?_) AllReady.nil
                                obtain ⟨wz41, hwz41⟩ : ∃ x, x = wz40.alloc (.cells #[.string XN] 9) := ⟨_, rfl⟩
                                have hbwz41 : Below wz40.heap.size wz40 wz41 := by rw [hwz41]; exact (Below.refl _ _).alloc (Nat.le_refl _) _
                                have HN : Hid (wz41.cell? ⟨wz40.heap.size, 0, none⟩ = some (.string XN)) := hide (by rw [hwz41, new_cell]; rfl)
                                have HA := hide (own_below HA.out hbwz41)
                                have HBD := hide (bel2 HBD.out hbwz41)
                                have y0 := cell_keep HY0.out HBD.out
                                have y3 := cell_keep HY3.out HBD.out
                                go_simp
                                go_wp2_with fail
                                rw [← hwz41]
                                clear hwz41 hbwz41
                                obtain ⟨gN, hgN⟩ : ∃ gN, gN = wz40.heap.size := ⟨_, rfl⟩
                                rw [← hgN] at HN ⊢
                                clear hgN
                                refine wpAny_ready (rs := [8]) (by kernel_rfl) (by simp) ?_
                                refine AllReady.cons rfl (fun K hK => ?_) AllReady.nil
                                rw [if_pos (by rfl)]
                                refine wp_append_str1 (.tmp 133) (.tmp 136) rfl wd wz41 _ names XN gN rfl rfl HBD.out HA.out HV.out HN.out (by have := HMB.out; omega) ?_
                                intro vf wz42 hsr hbd
                                have HBD := hide hbd
                                have y0 := cell_keep HY0.out HBD.out
                                have y3 := cell_keep HY3.out HBD.out
                                obtain ⟨pf, cf, hvf, -⟩ := id hsr
                                obtain ⟨LN, hLN⟩ : ∃ n, n = (names ++ [bl XN]).length := ⟨_, rfl⟩
                                rw [← hLN] at hvf
                                clear hLN
                                subst hvf
                                have HSF := hide hsr
                                clear hsr hbd
                                refine hK _ _ ?_
                                clear hK K
                                as_aux_lemma =>
                                  refine wpAny_ready (rs := [9]) (by kernel_rfl) (by simp) ?_
                                  refine AllReady.cons rfl (fun K hK => ?_) AllReady.nil
                                  go_simp
                                  go_wp2_with fail
                                  refine (HREC.out wz42 _ (bel2 HBW.out HBD.out) HSF.out).mono ?_
                                  rintro e wz43 ⟨rfl, hbx⟩
                                  have HBE := hide (bel2 (bel2 HBW.out HBD.out) hbx)
                                  clear hbx
                                  go_wp2_with fail
                                  refine wpAny_at (i := 10) (v := .bool (!S)) (a' := ?ax10q16) rfl (by kernel_rfl) (by kernel_rfl) (by kernel_rfl) (fun _ _ _ h => h) (Or.inl ⟨by rfl, ?yi⟩) ?ha ?_
                                  case yi => intro w; go_simp; try omega
                                  case ha => go_simp; exact rfl
                                  refine wpAny_done (by kernel_rfl) ?_ _
                                  go_wp2_with fail
                                  go_meet
                                  exact ⟨rfl, HBE⟩
                              · go_simp
                                go_wp2_with fail
                                refine wpAny_ready (rs := [4, 7]) (by kernel_rfl) (by simp) ?_
                                refine AllReady.cons rfl (fun K hK => ?_) (AllReady.cons rfl (fun K hK => ?_) AllReady.nil)
                                · rw [if_pos (by rfl)]
                                  refine wp_append_strs (.tmp 131) (.tmp 132) rfl wd wz1 (.slice (some ⟨gA, 0, none⟩) 0 0) (.slice pi M ci) names rfl rfl HBD.out HA.out (fun h => by cases h) HSD.out (by have := HMB.out; omega) ?_
                                  intro va wz44 ho hv hbd hgr
                                  have HBD := hide hbd
                                  have y0 := cell_keep HY0.out HBD.out
                                  have y3 := cell_keep HY3.out HBD.out
                                  obtain ⟨pa, ca, rfl⟩ := own_len ho
                                  have HA := hide ho
                                  have HV := hide hv
                                  clear ho hv hbd hgr
                                  refine hK _ _ ?_
                                  clear hK K
                                  refine wpAny_ready (rs := [7]) (by kernel_rfl) (by simp) ?_
                                  refine AllReady.cons rfl (fun K hK => ?_) AllReady.nil
                                  obtain ⟨wz45, hwz45⟩ : ∃ x, x = wz44.alloc (.cells #[.string XN] 9) := ⟨_, rfl⟩
                                  have hbwz45 : Below wz44.heap.size wz44 wz45 := by rw [hwz45]; exact (Below.refl _ _).alloc (Nat.le_refl _) _
                                  have HN : Hid (wz45.cell? ⟨wz44.heap.size, 0, none⟩ = some (.string XN)) := hide (by rw [hwz45, new_cell]; rfl)
                                  have HA := hide (own_below HA.out hbwz45)
                                  have HBD := hide (bel2 HBD.out hbwz45)
                                  have y0 := cell_keep HY0.out HBD.out
                                  have y3 := cell_keep HY3.out HBD.out
                                  go_simp
                                  go_wp2_with fail
                                  rw [← hwz45]
                                  clear hwz45 hbwz45
                                  obtain ⟨gN, hgN⟩ : ∃ gN, gN = wz44.heap.size := ⟨_, rfl⟩
                                  rw [← hgN] at HN ⊢
                                  clear hgN
                                  refine wpAny_ready (rs := [8]) (by kernel_rfl) (by simp) ?_
                                  refine AllReady.cons rfl (fun K hK => ?_) AllReady.nil
                                  rw [if_pos (by rfl)]
                                  refine wp_append_str1 (.tmp 133) (.tmp 136) rfl wd wz45 _ names XN gN rfl rfl HBD.out HA.out HV.out HN.out (by have := HMB.out; omega) ?_
                                  intro vf wz46 hsr hbd
                                  have HBD := hide hbd
                                  have y0 := cell_keep HY0.out HBD.out
                                  have y3 := cell_keep HY3.out HBD.out
                                  obtain ⟨pf, cf, hvf, -⟩ := id hsr
                                  obtain ⟨LN, hLN⟩ : ∃ n, n = (names ++ [bl XN]).length := ⟨_, rfl⟩
                                  rw [← hLN] at hvf
                                  clear hLN
                                  subst hvf
                                  have HSF := hide hsr
                                  clear hsr hbd
                                  refine hK _ _ ?_
                                  clear hK K
                                  as_aux_lemma =>
                                    refine wpAny_ready (rs := [9]) (by kernel_rfl) (by simp) ?_
                                    refine AllReady.cons rfl (fun K hK => ?_) AllReady.nil
                                    go_simp
                                    go_wp2_with fail
                                    refine (HREC.out wz46 _ (bel2 HBW.out HBD.out) HSF.out).mono ?_
                                    rintro e wz47 ⟨rfl, hbx⟩
                                    have HBE := hide (bel2 (bel2 HBW.out HBD.out) hbx)
                                    clear hbx
                                    go_wp2_with fail
                                    refine wpAny_at (i := 10) (v := .bool (!S)) (a' := ?ax10q17) rfl (by kernel_rfl) (by kernel_rfl) (by kernel_rfl) (fun _ _ _ h => h) (Or.inl ⟨by rfl, ?yi⟩) ?ha ?_
                                    case yi => intro w; go_simp; try omega
                                    case ha => go_simp; exact rfl
                                    refine wpAny_done (by kernel_rfl) ?_ _
                                    go_wp2_with fail
                                    go_meet
                                    exact ⟨rfl, HBE⟩
                                · obtain ⟨wz48, hwz48⟩ : ∃ x, x = wz1.alloc (.cells #[.string XN] 9) := ⟨_, rfl⟩
                                  have hbwz48 : Below wz1.heap.size wz1 wz48 := by rw [hwz48]; exact (Below.refl _ _).alloc (Nat.le_refl _) _
                                  have HN : Hid (wz48.cell? ⟨wz1.heap.size, 0, none⟩ = some (.string XN)) := hide (by rw [hwz48, new_cell]; rfl)
                                  have HGN : Hid (wz1.heap.size ≠ gA) := hide (Ne.symm (Nat.ne_of_lt (HA.out.lt gA rfl).2))
                                  have HA := hide (own_below HA.out hbwz48)
                                  have HBD := hide (bel2 HBD.out hbwz48)
                                  have y0 := cell_keep HY0.out HBD.out
                                  have y3 := cell_keep HY3.out HBD.out
                                  go_simp
                                  go_wp2_with fail
                                  rw [← hwz48]
                                  clear hwz48 hbwz48
                                  obtain ⟨gN, hgN⟩ : ∃ gN, gN = wz1.heap.size := ⟨_, rfl⟩
                                  rw [← hgN] at HN HGN ⊢
                                  clear hgN
                                  refine wpAny_ready (rs := [4]) (by kernel_rfl) (by simp) ?_
                                  refine AllReady.cons rfl (fun K hK => ?_) AllReady.nil
                                  rw [if_pos (by rfl)]
                                  refine wp_append_strs (.tmp 131) (.tmp 132) rfl wd wz48 (.slice (some ⟨gA, 0, none⟩) 0 0) (.slice pi M ci) names rfl rfl HBD.out HA.out (fun h => by cases h) HSD.out (by have := HMB.out; omega) ?_
                                  intro va wz49 ho hv hbd hgr
                                  have HN := hide (grown_cell HN.out hgr HGN.out)
                                  have HBD := hide hbd
                                  have y0 := cell_keep HY0.out HBD.out
                                  have y3 := cell_keep HY3.out HBD.out
                                  obtain ⟨pa, ca, rfl⟩ := own_len ho
                                  have HA := hide ho
                                  have HV := hide hv
                                  clear ho hv hbd hgr
                                  refine hK _ _ ?_
                                  clear hK K
                                  refine wpAny_ready (rs := [8]) (by kernel_rfl) (by simp) ?_
                                  refine AllReady.cons rfl (fun K hK => ?_) AllReady.nil
                                  rw [if_pos (by rfl)]
                                  refine wp_append_str1 (.tmp 133) (.tmp 136) rfl wd wz49 _ names XN gN rfl rfl HBD.out HA.out HV.out HN.out (by have := HMB.out; omega) ?_
                                  intro vf wz50 hsr hbd
                                  have HBD := hide hbd
                                  have y0 := cell_keep HY0.out HBD.out
                                  have y3 := cell_keep HY3.out HBD.out
                                  obtain ⟨pf, cf, hvf, -⟩ := id hsr
                                  obtain ⟨LN, hLN⟩ : ∃ n, n = (names ++ [bl XN]).length := ⟨_, rfl⟩
                                  rw [← hLN] at hvf
                                  clear hLN
                                  subst hvf
                                  have HSF := hide hsr
                                  clear hsr hbd
                                  refine hK _ _ ?_
                                  clear hK K
                                  as_aux_lemma =>
                                    refine wpAny_ready (rs := [9]) (by kernel_rfl) (by simp) ?_
                                    refine AllReady.cons rfl (fun K hK => ?_) AllReady.nil
                                    go_simp
                                    go_wp2_with fail
                                    refine (HREC.out wz50 _ (bel2 HBW.out HBD.out) HSF.out).mono ?_
                                    rintro e wz51 ⟨rfl, hbx⟩
                                    have HBE := hide (bel2 (bel2 HBW.out HBD.out) hbx)
                                    clear hbx
                                    go_wp2_with fail
                                    refine wpAny_at (i := 10) (v := .bool (!S)) (a' := ?ax10q18) rfl (by kernel_rfl) (by kernel_rfl) (by kernel_rfl) (fun _ _ _ h => h) (Or.inl ⟨by rfl, ?yi⟩) ?ha ?_
                                    case yi => intro w; go_simp; try omega
                                    case ha => go_simp; exact rfl
                                    refine wpAny_done (by kernel_rfl) ?_ _
                                    go_wp2_with fail
                                    go_meet
                                    exact ⟨rfl, HBE⟩
                            · rw [if_pos (by rfl)]
                              refine wp_append_strs (.tmp 131) (.tmp 132) rfl wd wz1 (.slice (some ⟨gA, 0, none⟩) 0 0) (.slice pi M ci) names rfl rfl HBD.out HA.out (fun h => by cases h) HSD.out (by have := HMB.out; omega) ?_
                              intro va wz2 ho hv hbd hgr
                              have HBD := hide hbd
                              have y0 := cell_keep HY0.out HBD.out
                              have y3 := cell_keep HY3.out HBD.out
                              obtain ⟨pa, ca, rfl⟩ := own_len ho
                              have HA := hide ho
                              have HV := hide hv
                              clear ho hv hbd hgr
                              refine hK _ _ ?_
                              clear hK K
                              refine wpAny_ready (rs := [1, 6]) (by kernel_rfl) (by simp) ?_
                              refine AllReady.cons rfl (fun K hK => ?_) (AllReady.cons rfl (fun K hK => ?_) AllReady.nil)
                              · go_simp
                                go_wp2_with fail
                                refine wpAny_ready (rs := [6]) (by kernel_rfl) (by simp) ?_
                                refine AllReady.cons rfl (fun K hK => ?_) AllReady.nil
                                go_simp
                                go_wp2_with fail
                                refine wpAny_ready (rs := [7]) (by kernel_rfl) (by simp) ?_
                                refine AllReady.cons rfl (fun K hK => ?_) AllReady.nil
                                obtain ⟨wz11, hwz11⟩ : ∃ x, x = wz2.alloc (.cells #[.string XN] 9) := ⟨_, rfl⟩
                                have hbwz11 : Below wz2.heap.size wz2 wz11 := by rw [hwz11]; exact (Below.refl _ _).alloc (Nat.le_refl _) _
                                have HN : Hid (wz11.cell? ⟨wz2.heap.size, 0, none⟩ = some (.string XN)) := hide (by rw [hwz11, new_cell]; rfl)
                                have HA := hide (own_below HA.out hbwz11)
                                have HBD := hide (bel2 HBD.out hbwz11)
                                have y0 := cell_keep HY0.out HBD.out
                                have y3 := cell_keep HY3.out HBD.out
                                go_simp
                                go_wp2_with fail
                                rw [← hwz11]
                                clear hwz11 hbwz11
                                obtain ⟨gN, hgN⟩ : ∃ gN, gN = wz2.heap.size := ⟨_, rfl⟩
                                rw [← hgN] at HN ⊢
                                clear hgN
                                refine wpAny_ready (rs := [8]) (by kernel_rfl) (by simp) ?_
                                refine AllReady.cons rfl (fun K hK => ?_) AllReady.nil
                                rw [if_pos (by rfl)]
                                refine wp_append_str1 (.tmp 133) (.tmp 136) rfl wd wz11 _ names XN gN rfl rfl HBD.out HA.out HV.out HN.out (by have := HMB.out; omega) ?_
                                intro vf wz12 hsr hbd
                                have HBD := hide hbd
                                have y0 := cell_keep HY0.out HBD.out
                                have y3 := cell_keep HY3.out HBD.out
                                obtain ⟨pf, cf, hvf, -⟩ := id hsr
                                obtain ⟨LN, hLN⟩ : ∃ n, n = (names ++ [bl XN]).length := ⟨_, rfl⟩
                                rw [← hLN] at hvf
                                clear hLN
                                subst hvf
                                have HSF := hide hsr
                                clear hsr hbd
                                refine hK _ _ ?_
                                clear hK K
                                as_aux_lemma =>
                                  refine wpAny_ready (rs := [9]) (by kernel_rfl) (by simp) ?_
                                  refine AllReady.cons rfl (fun K hK => ?_) AllReady.nil
                                  go_simp
                                  go_wp2_with fail
                                  refine (HREC.out wz12 _ (bel2 HBW.out HBD.out) HSF.out).mono ?_
                                  rintro e wz13 ⟨rfl, hbx⟩
                                  have HBE := hide (bel2 (bel2 HBW.out HBD.out) hbx)
                                  clear hbx
                                  go_wp2_with fail
                                  refine wpAny_at (i := 10) (v := .bool (!S)) (a' := ?ax10q7) rfl (by kernel_rfl) (by kernel_rfl) (by kernel_rfl) (fun _ _ _ h => h) (Or.inl ⟨by rfl, ?yi⟩) ?ha ?_
                                  case yi => intro w; go_simp; try omega
                                  case ha => go_simp; exact rfl
                                  refine wpAny_done (by kernel_rfl) ?_ _
                                  go_wp2_with fail
                                  go_meet
                                  exact ⟨rfl, HBE⟩
                              · go_simp
                                go_wp2_with fail
                                refine wpAny_ready (rs := [1, 7]) (by kernel_rfl) (by simp) ?_
                                refine AllReady.cons rfl (fun K hK => ?_) (AllReady.cons rfl (fun K hK => ?_) AllReady.nil)
                                · go_simp
                                  go_wp2_with fail
                                  refine wpAny_ready (rs := [7]) (by kernel_rfl) (by simp) ?_
                                  refine AllReady.cons rfl (fun K hK => ?_) AllReady.nil
                                  obtain ⟨wz8, hwz8⟩ : ∃ x, x = wz2.alloc (.cells #[.string XN] 9) := ⟨_, rfl⟩
                                  have hbwz8 : Below wz2.heap.size wz2 wz8 := by rw [hwz8]; exact (Below.refl _ _).alloc (Nat.le_refl _) _
                                  have HN : Hid (wz8.cell? ⟨wz2.heap.size, 0, none⟩ = some (.string XN)) := hide (by rw [hwz8, new_cell]; rfl)
                                  have HA := hide (own_below HA.out hbwz8)
                                  have HBD := hide (bel2 HBD.out hbwz8)
                                  have y0 := cell_keep HY0.out HBD.out
                                  have y3 := cell_keep HY3.out HBD.out
                                  go_simp
                                  go_wp2_with fail
                                  rw [← hwz8]
                                  clear hwz8 hbwz8
                                  obtain ⟨gN, hgN⟩ : ∃ gN, gN = wz2.heap.size := ⟨_, rfl⟩
                                  rw [← hgN] at HN ⊢
                                  clear hgN
                                  refine wpAny_ready (rs := [8]) (by kernel_rfl) (by simp) ?_
                                  refine AllReady.cons rfl (fun K hK => ?_) AllReady.nil
                                  rw [if_pos (by rfl)]
                                  refine wp_append_str1 (.tmp 133) (.tmp 136) rfl wd wz8 _ names XN gN rfl rfl HBD.out HA.out HV.out HN.out (by have := HMB.out; omega) ?_
                                  intro vf wz9 hsr hbd
                                  have HBD := hide hbd
                                  have y0 := cell_keep HY0.out HBD.out
                                  have y3 := cell_keep HY3.out HBD.out
                                  obtain ⟨pf, cf, hvf, -⟩ := id hsr
                                  obtain ⟨LN, hLN⟩ : ∃ n, n = (names ++ [bl XN]).length := ⟨_, rfl⟩
                                  rw [← hLN] at hvf
                                  clear hLN
                                  subst hvf
                                  have HSF := hide hsr
                                  clear hsr hbd
                                  refine hK _ _ ?_
                                  clear hK K
                                  as_aux_lemma =>
                                    refine wpAny_ready (rs := [9]) (by kernel_rfl) (by simp) ?_
                                    refine AllReady.cons rfl (fun K hK => ?_) AllReady.nil
                                    go_simp
                                    go_wp2_with fail
                                    refine (HREC.out wz9 _ (bel2 HBW.out HBD.out) HSF.out).mono ?_
                                    rintro e wz10 ⟨rfl, hbx⟩
                                    have HBE := hide (bel2 (bel2 HBW.out HBD.out) hbx)
                                    clear hbx
                                    go_wp2_with fail
                                    refine wpAny_at (i := 10) (v := .bool (!S)) (a' := ?ax10q6) rfl (by kernel_rfl) (by kernel_rfl) (by kernel_rfl) (fun _ _ _ h => h) (Or.inl ⟨by rfl, ?yi⟩) ?ha ?_
                                    case yi => intro w; go_simp; try omega
                                    case ha => go_simp; exact rfl
                                    refine wpAny_done (by kernel_rfl) ?_ _
                                    go_wp2_with fail
                                    go_meet
                                    exact ⟨rfl, HBE⟩
                                · obtain ⟨wz3, hwz3⟩ : ∃ x, x = wz2.alloc (.cells #[.string XN] 9) := ⟨_, rfl⟩
                                  have hbwz3 : Below wz2.heap.size wz2 wz3 := by rw [hwz3]; exact (Below.refl _ _).alloc (Nat.le_refl _) _
                                  have HN : Hid (wz3.cell? ⟨wz2.heap.size, 0, none⟩ = some (.string XN)) := hide (by rw [hwz3, new_cell]; rfl)
                                  have HA := hide (own_below HA.out hbwz3)
                                  have HBD := hide (bel2 HBD.out hbwz3)
                                  have y0 := cell_keep HY0.out HBD.out
                                  have y3 := cell_keep HY3.out HBD.out
                                  go_simp
                                  go_wp2_with fail
                                  rw [← hwz3]
                                  clear hwz3 hbwz3
                                  obtain ⟨gN, hgN⟩ : ∃ gN, gN = wz2.heap.size := ⟨_, rfl⟩
                                  rw [← hgN] at HN ⊢
                                  clear hgN
                                  refine wpAny_ready (rs := [1, 8]) (by kernel_rfl) (by simp) ?_
                                  refine AllReady.cons rfl (fun K hK => ?_) (AllReady.cons rfl (fun K hK => ?_) AllReady.nil)
                                  · go_simp
                                    go_wp2_with fail
                                    refine wpAny_ready (rs := [8]) (by kernel_rfl) (by simp) ?_
                                    refine AllReady.cons rfl (fun K hK => ?_) AllReady.nil
                                    rw [if_pos (by rfl)]
                                    refine wp_append_str1 (.tmp 133) (.tmp 136) rfl wd wz3 _ names XN gN rfl rfl HBD.out HA.out HV.out HN.out (by have := HMB.out; omega) ?_
                                    intro vf wz6 hsr hbd
                                    have HBD := hide hbd
                                    have y0 := cell_keep HY0.out HBD.out
                                    have y3 := cell_keep HY3.out HBD.out
                                    obtain ⟨pf, cf, hvf, -⟩ := id hsr
                                    obtain ⟨LN, hLN⟩ : ∃ n, n = (names ++ [bl XN]).length := ⟨_, rfl⟩
                                    rw [← hLN] at hvf
                                    clear hLN
                                    subst hvf
                                    have HSF := hide hsr
                                    clear hsr hbd
                                    refine hK _ _ ?_
                                    clear hK K
                                    as_aux_lemma =>
                                      refine wpAny_ready (rs := [9]) (by kernel_rfl) (by simp) ?_
                                      refine AllReady.cons rfl (fun K hK => ?_) AllReady.nil
                                      go_simp
                                      go_wp2_with fail
                                      refine (HREC.out wz6 _ (bel2 HBW.out HBD.out) HSF.out).mono ?_
                                      rintro e wz7 ⟨rfl, hbx⟩
                                      have HBE := hide (bel2 (bel2 HBW.out HBD.out) hbx)
                                      clear hbx
                                      go_wp2_with fail
                                      refine wpAny_at (i := 10) (v := .bool (!S)) (a' := ?ax10q5) rfl (by kernel_rfl) (by kernel_rfl) (by kernel_rfl) (fun _ _ _ h => h) (Or.inl ⟨by rfl, ?yi⟩) ?ha ?_
                                      case yi => intro w; go_simp; try omega
                                      case ha => go_simp; exact rfl
                                      refine wpAny_done (by kernel_rfl) ?_ _
                                      go_wp2_with fail
                                      go_meet
                                      exact ⟨rfl, HBE⟩
                                  · rw [if_pos (by rfl)]
                                    refine wp_append_str1 (.tmp 133) (.tmp 136) rfl wd wz3 _ names XN gN rfl rfl HBD.out HA.out HV.out HN.out (by have := HMB.out; omega) ?_
                                    intro vf wz4 hsr hbd
                                    have HBD := hide hbd
                                    have y0 := cell_keep HY0.out HBD.out
                                    have y3 := cell_keep HY3.out HBD.out
                                    obtain ⟨pf, cf, hvf, -⟩ := id hsr
                                    obtain ⟨LN, hLN⟩ : ∃ n, n = (names ++ [bl XN]).length := ⟨_, rfl⟩
                                    rw [← hLN] at hvf
                                    clear hLN
                                    subst hvf
                                    have HSF := hide hsr
                                    clear hsr hbd
                                    refine hK _ _ ?_
                                    clear hK K
                                    refine wpAny_ready (rs := [1]) (by kernel_rfl) (by simp) ?_
                                    refine AllReady.cons rfl (fun K hK => ?_) AllReady.nil
                                    go_simp
                                    go_wp2_with fail
                                    as_aux_lemma =>
                                      refine wpAny_ready (rs := [9]) (by kernel_rfl) (by simp) ?_
                                      refine AllReady.cons rfl (fun K hK => ?_) AllReady.nil
                                      go_simp
                                      go_wp2_with fail
                                      refine (HREC.out wz4 _ (bel2 HBW.out HBD.out) HSF.out).mono ?_
                                      rintro e wz5 ⟨rfl, hbx⟩
                                      have HBE := hide (bel2 (bel2 HBW.out HBD.out) hbx)
                                      clear hbx
                                      go_wp2_with fail
                                      refine wpAny_at (i := 10) (v := .bool (!S)) (a' := ?ax10q4) rfl (by kernel_rfl) (by kernel_rfl) (by kernel_rfl) (fun _ _ _ h => h) (Or.inl ⟨by rfl, ?yi⟩) ?ha ?_
                                      case yi => intro w; go_simp; try omega
                                      case ha => go_simp; exact rfl
                                      refine wpAny_done (by kernel_rfl) ?_ _
                                      go_wp2_with fail
                                      go_meet
                                      exact ⟨rfl, HBE⟩
                            · go_simp
                              go_wp2_with fail
                              refine wpAny_ready (rs := [1, 4, 7]) (by kernel_rfl) (by simp) ?_
                              refine AllReady.cons rfl (fun K hK => ?_) (AllReady.cons rfl (fun K hK => ?_) (AllReady.cons rfl (fun K hK => ?_) AllReady.nil))
                              · go_simp
                                go_wp2_with fail
                                refine wpAny_ready (rs := [4, 7]) (by kernel_rfl) (by simp) ?_
                                refine AllReady.cons rfl (fun K hK => ?_) (AllReady.cons rfl (fun K hK => ?_) AllReady.nil)
                                · rw [if_pos (by rfl)]
                                  refine wp_append_strs (.tmp 131) (.tmp 132) rfl wd wz1 (.slice (some ⟨gA, 0, none⟩) 0 0) (.slice pi M ci) names rfl rfl HBD.out HA.out (fun h => by cases h) HSD.out (by have := HMB.out; omega) ?_
                                  intro va wz32 ho hv hbd hgr
                                  have HBD := hide hbd
                                  have y0 := cell_keep HY0.out HBD.out
                                  have y3 := cell_keep HY3.out HBD.out
                                  obtain ⟨pa, ca, rfl⟩ := own_len ho
                                  have HA := hide ho
                                  have HV := hide hv
                                  clear ho hv hbd hgr
                                  refine hK _ _ ?_
                                  clear hK K
                                  refine wpAny_ready (rs := [7]) (by kernel_rfl) (by simp) ?_
                                  refine AllReady.cons rfl (fun K hK => ?_) AllReady.nil
                                  obtain ⟨wz33, hwz33⟩ : ∃ x, x = wz32.alloc (.cells #[.string XN] 9) := ⟨_, rfl⟩
                                  have hbwz33 : Below wz32.heap.size wz32 wz33 := by rw [hwz33]; exact (Below.refl _ _).alloc (Nat.le_refl _) _
                                  have HN : Hid (wz33.cell? ⟨wz32.heap.size, 0, none⟩ = some (.string XN)) := hide (by rw [hwz33, new_cell]; rfl)
                                  have HA := hide (own_below HA.out hbwz33)
                                  have HBD := hide (bel2 HBD.out hbwz33)
                                  have y0 := cell_keep HY0.out HBD.out
                                  have y3 := cell_keep HY3.out HBD.out
                                  go_simp
                                  go_wp2_with fail
                                  rw [← hwz33]
                                  clear hwz33 hbwz33
                                  obtain ⟨gN, hgN⟩ : ∃ gN, gN = wz32.heap.size := ⟨_, rfl⟩
                                  rw [← hgN] at HN ⊢
                                  clear hgN
                                  refine wpAny_ready (rs := [8]) (by kernel_rfl) (by simp) ?_
                                  refine AllReady.cons rfl (fun K hK => ?_) AllReady.nil
                                  rw [if_pos (by rfl)]
                                  refine wp_append_str1 (.tmp 133) (.tmp 136) rfl wd wz33 _ names XN gN rfl rfl HBD.out HA.out HV.out HN.out (by have := HMB.out; omega) ?_
                                  intro vf wz34 hsr hbd
                                  have HBD := hide hbd
                                  have y0 := cell_keep HY0.out HBD.out
                                  have y3 := cell_keep HY3.out HBD.out
                                  obtain ⟨pf, cf, hvf, -⟩ := id hsr
                                  obtain ⟨LN, hLN⟩ : ∃ n, n = (names ++ [bl XN]).length := ⟨_, rfl⟩
                                  rw [← hLN] at hvf
                                  clear hLN
                                  subst hvf
                                  have HSF := hide hsr
                                  clear hsr hbd
                                  refine hK _ _ ?_
                                  clear hK K
                                  as_aux_lemma =>
                                    refine wpAny_ready (rs := [9]) (by kernel_rfl) (by simp) ?_
                                    refine AllReady.cons rfl (fun K hK => ?_) AllReady.nil
                                    go_simp
                                    go_wp2_with fail
                                    refine (HREC.out wz34 _ (bel2 HBW.out HBD.out) HSF.out).mono ?_
                                    rintro e wz35 ⟨rfl, hbx⟩
                                    have HBE := hide (bel2 (bel2 HBW.out HBD.out) hbx)
                                    clear hbx
                                    go_wp2_with fail
                                    refine wpAny_at (i := 10) (v := .bool (!S)) (a' := ?ax10q14) rfl (by kernel_rfl) (by kernel_rfl) (by kernel_rfl) (fun _ _ _ h => h) (Or.inl ⟨by rfl, ?yi⟩) ?ha ?_
                                    case yi => intro w; go_simp; try omega
                                    case ha => go_simp; exact rfl
                                    refine wpAny_done (by kernel_rfl) ?_ _
                                    go_wp2_with fail
                                    go_meet
                                    exact ⟨rfl, HBE⟩
                                · obtain ⟨wz36, hwz36⟩ : ∃ x, x = wz1.alloc (.cells #[.string XN] 9) := ⟨_, rfl⟩
                                  have hbwz36 : Below wz1.heap.size wz1 wz36 := by rw [hwz36]; exact (Below.refl _ _).alloc (Nat.le_refl _) _
                                  have HN : Hid (wz36.cell? ⟨wz1.heap.size, 0, none⟩ = some (.string XN)) := hide (by rw [hwz36, new_cell]; rfl)
                                  have HGN : Hid (wz1.heap.size ≠ gA) := hide (Ne.symm (Nat.ne_of_lt (HA.out.lt gA rfl).2))
                                  have HA := hide (own_below HA.out hbwz36)
                                  have HBD := hide (bel2 HBD.out hbwz36)
                                  have y0 := cell_keep HY0.out HBD.out
                                  have y3 := cell_keep HY3.out HBD.out
                                  go_simp
                                  go_wp2_with fail
                                  rw [← hwz36]
                                  clear hwz36 hbwz36
                                  obtain ⟨gN, hgN⟩ : ∃ gN, gN = wz1.heap.size := ⟨_, rfl⟩
                                  rw [← hgN] at HN HGN ⊢
                                  clear hgN
                                  refine wpAny_ready (rs := [4]) (by kernel_rfl) (by simp) ?_
                                  refine AllReady.cons rfl (fun K hK => ?_) AllReady.nil
                                  rw [if_pos (by rfl)]
                                  refine wp_append_strs (.tmp 131) (.tmp 132) rfl wd wz36 (.slice (some ⟨gA, 0, none⟩) 0 0) (.slice pi M ci) names rfl rfl HBD.out HA.out (fun h => by cases h) HSD.out (by have := HMB.out; omega) ?_
                                  intro va wz37 ho hv hbd hgr
                                  have HN := hide (grown_cell HN.out hgr HGN.out)
                                  have HBD := hide hbd
                                  have y0 := cell_keep HY0.out HBD.out
                                  have y3 := cell_keep HY3.out HBD.out
                                  obtain ⟨pa, ca, rfl⟩ := own_len ho
                                  have HA := hide ho
                                  have HV := hide hv
                                  clear ho hv hbd hgr
                                  refine hK _ _ ?_
                                  clear hK K
                                  refine wpAny_ready (rs := [8]) (by kernel_rfl) (by simp) ?_
                                  refine AllReady.cons rfl (fun K hK => ?_) AllReady.nil
                                  rw [if_pos (by rfl)]
                                  refine wp_append_str1 (.tmp 133) (.tmp 136) rfl wd wz37 _ names XN gN rfl rfl HBD.out HA.out HV.out HN.out (by have := HMB.out; omega) ?_
                                  intro vf wz38 hsr hbd
                                  have HBD := hide hbd
                                  have y0 := cell_keep HY0.out HBD.out
                                  have y3 := cell_keep HY3.out HBD.out
                                  obtain ⟨pf, cf, hvf, -⟩ := id hsr
                                  obtain ⟨LN, hLN⟩ : ∃ n, n = (names ++ [bl XN]).length := ⟨_, rfl⟩
                                  rw [← hLN] at hvf
                                  clear hLN
                                  subst hvf
                                  have HSF := hide hsr
                                  clear hsr hbd
                                  refine hK _ _ ?_
                                  clear hK K
                                  as_aux_lemma =>
                                    refine wpAny_ready (rs := [9]) (by kernel_rfl) (by simp) ?_
                                    refine AllReady.cons rfl (fun K hK => ?_) AllReady.nil
                                    go_simp
                                    go_wp2_with fail
                                    refine (HREC.out wz38 _ (bel2 HBW.out HBD.out) HSF.out).mono ?_
                                    rintro e wz39 ⟨rfl, hbx⟩
                                    have HBE := hide (bel2 (bel2 HBW.out HBD.out) hbx)
                                    clear hbx
                                    go_wp2_with fail
                                    refine wpAny_at (i := 10) (v := .bool (!S)) (a' := ?ax10q15) rfl (by kernel_rfl) (by kernel_rfl) (by kernel_rfl) (fun _ _ _ h => h) (Or.inl ⟨by rfl, ?yi⟩) ?ha ?_
                                    case yi => intro w; go_simp; try omega
                                    case ha => go_simp; exact rfl
                                    refine wpAny_done (by kernel_rfl) ?_ _
                                    go_wp2_with fail
                                    go_meet
                                    exact ⟨rfl, HBE⟩
                              · rw [if_pos (by rfl)]
                                refine wp_append_strs (.tmp 131) (.tmp 132) rfl wd wz1 (.slice (some ⟨gA, 0, none⟩) 0 0) (.slice pi M ci) names rfl rfl HBD.out HA.out (fun h => by cases h) HSD.out (by have := HMB.out; omega) ?_
                                intro va wz14 ho hv hbd hgr
                                have HBD := hide hbd
                                have y0 := cell_keep HY0.out HBD.out
                                have y3 := cell_keep HY3.out HBD.out
                                obtain ⟨pa, ca, rfl⟩ := own_len ho
                                have HA := hide ho
                                have HV := hide hv
                                clear ho hv hbd hgr
                                refine hK _ _ ?_
                                clear hK K
                                refine wpAny_ready (rs := [1, 7]) (by kernel_rfl) (by simp) ?_
                                refine AllReady.cons rfl (fun K hK => ?_) (AllReady.cons rfl (fun K hK => ?_) AllReady.nil)
                                · go_simp
                                  go_wp2_with fail
                                  refine wpAny_ready (rs := [7]) (by kernel_rfl) (by simp) ?_
                                  refine AllReady.cons rfl (fun K hK => ?_) AllReady.nil
                                  obtain ⟨wz20, hwz20⟩ : ∃ x, x = wz14.alloc (.cells #[.string XN] 9) := ⟨_, rfl⟩
                                  have hbwz20 : Below wz14.heap.size wz14 wz20 := by rw [hwz20]; exact (Below.refl _ _).alloc (Nat.le_refl _) _
                                  have HN : Hid (wz20.cell? ⟨wz14.heap.size, 0, none⟩ = some (.string XN)) := hide (by rw [hwz20, new_cell]; rfl)
                                  have HA := hide (own_below HA.out hbwz20)
                                  have HBD := hide (bel2 HBD.out hbwz20)
                                  have y0 := cell_keep HY0.out HBD.out
                                  have y3 := cell_keep HY3.out HBD.out
                                  go_simp
                                  go_wp2_with fail
                                  rw [← hwz20]
                                  clear hwz20 hbwz20
                                  obtain ⟨gN, hgN⟩ : ∃ gN, gN = wz14.heap.size := ⟨_, rfl⟩
                                  rw [← hgN] at HN ⊢
                                  clear hgN
                                  refine wpAny_ready (rs := [8]) (by kernel_rfl) (by simp) ?_
                                  refine AllReady.cons rfl (fun K hK => ?_) AllReady.nil
                                  rw [if_pos (by rfl)]
                                  refine wp_append_str1 (.tmp 133) (.tmp 136) rfl wd wz20 _ names XN gN rfl rfl HBD.out HA.out HV.out HN.out (by have := HMB.out; omega) ?_
                                  intro vf wz21 hsr hbd
                                  have HBD := hide hbd
                                  have y0 := cell_keep HY0.out HBD.out
                                  have y3 := cell_keep HY3.out HBD.out
                                  obtain ⟨pf, cf, hvf, -⟩ := id hsr
                                  obtain ⟨LN, hLN⟩ : ∃ n, n = (names ++ [bl XN]).length := ⟨_, rfl⟩
                                  rw [← hLN] at hvf
                                  clear hLN
                                  subst hvf
                                  have HSF := hide hsr
                                  clear hsr hbd
                                  refine hK _ _ ?_
                                  clear hK K
                                  as_aux_lemma =>
                                    refine wpAny_ready (rs := [9]) (by kernel_rfl) (by simp) ?_
                                    refine AllReady.cons rfl (fun K hK => ?_) AllReady.nil
                                    go_simp
                                    go_wp2_with fail
                                    refine (HREC.out wz21 _ (bel2 HBW.out HBD.out) HSF.out).mono ?_
                                    rintro e wz22 ⟨rfl, hbx⟩
                                    have HBE := hide (bel2 (bel2 HBW.out HBD.out) hbx)
                                    clear hbx
                                    go_wp2_with fail
                                    refine wpAny_at (i := 10) (v := .bool (!S)) (a' := ?ax10q10) rfl (by kernel_rfl) (by kernel_rfl) (by kernel_rfl) (fun _ _ _ h => h) (Or.inl ⟨by rfl, ?yi⟩) ?ha ?_
                                    case yi => intro w; go_simp; try omega
                                    case ha => go_simp; exact rfl
                                    refine wpAny_done (by kernel_rfl) ?_ _
                                    go_wp2_with fail
                                    go_meet
                                    exact ⟨rfl, HBE⟩
                                · obtain ⟨wz15, hwz15⟩ : ∃ x, x = wz14.alloc (.cells #[.string XN] 9) := ⟨_, rfl⟩
                                  have hbwz15 : Below wz14.heap.size wz14 wz15 := by rw [hwz15]; exact (Below.refl _ _).alloc (Nat.le_refl _) _
                                  have HN : Hid (wz15.cell? ⟨wz14.heap.size, 0, none⟩ = some (.string XN)) := hide (by rw [hwz15, new_cell]; rfl)
                                  have HA := hide (own_below HA.out hbwz15)
                                  have HBD := hide (bel2 HBD.out hbwz15)
                                  have y0 := cell_keep HY0.out HBD.out
                                  have y3 := cell_keep HY3.out HBD.out
                                  go_simp
                                  go_wp2_with fail
                                  rw [← hwz15]
                                  clear hwz15 hbwz15
                                  obtain ⟨gN, hgN⟩ : ∃ gN, gN = wz14.heap.size := ⟨_, rfl⟩
                                  rw [← hgN] at HN ⊢
                                  clear hgN
                                  refine wpAny_ready (rs := [1, 8]) (by kernel_rfl) (by simp) ?_
                                  refine AllReady.cons rfl (fun K hK => ?_) (AllReady.cons rfl (fun K hK => ?_) AllReady.nil)
                                  · go_simp
                                    go_wp2_with fail
                                    refine wpAny_ready (rs := [8]) (by kernel_rfl) (by simp) ?_
                                    refine AllReady.cons rfl (fun K hK => ?_) AllReady.nil
                                    rw [if_pos (by rfl)]
                                    refine wp_append_str1 (.tmp 133) (.tmp 136) rfl wd wz15 _ names XN gN rfl rfl HBD.out HA.out HV.out HN.out (by have := HMB.out; omega) ?_
                                    intro vf wz18 hsr hbd
                                    have HBD := hide hbd
                                    have y0 := cell_keep HY0.out HBD.out
                                    have y3 := cell_keep HY3.out HBD.out
                                    obtain ⟨pf, cf, hvf, -⟩ := id hsr
                                    obtain ⟨LN, hLN⟩ : ∃ n, n = (names ++ [bl XN]).length := ⟨_, rfl⟩
                                    rw [← hLN] at hvf
                                    clear hLN
                                    subst hvf
                                    have HSF := hide hsr
                                    clear hsr hbd
                                    refine hK _ _ ?_
                                    clear hK K
                                    as_aux_lemma =>
                                      refine wpAny_ready (rs := [9]) (by kernel_rfl) (by simp) ?_
                                      refine AllReady.cons rfl (fun K hK => ?_) AllReady.nil
                                      go_simp
                                      go_wp2_with fail
                                      refine (HREC.out wz18 _ (bel2 HBW.out HBD.out) HSF.out).mono ?_
                                      rintro e wz19 ⟨rfl, hbx⟩
                                      have HBE := hide (bel2 (bel2 HBW.out HBD.out) hbx)
                                      clear hbx
                                      go_wp2_with fail
                                      refine wpAny_at (i := 10) (v := .bool (!S)) (a' := ?ax10q9) rfl (by kernel_rfl) (by kernel_rfl) (by kernel_rfl) (fun _ _ _ h => h) (Or.inl ⟨by rfl, ?yi⟩) ?ha ?_
                                      case yi => intro w; go_simp; try omega
                                      case ha => go_simp; exact rfl
                                      refine wpAny_done (by kernel_rfl) ?_ _
                                      go_wp2_with fail
                                      go_meet
                                      exact ⟨rfl, HBE⟩
                                  · rw [if_pos (by rfl)]
                                    refine wp_append_str1 (.tmp 133) (.tmp 136) rfl wd wz15 _ names XN gN rfl rfl HBD.out HA.out HV.out HN.out (by have := HMB.out; omega) ?_
                                    intro vf wz16 hsr hbd
                                    have HBD := hide hbd
                                    have y0 := cell_keep HY0.out HBD.out
                                    have y3 := cell_keep HY3.out HBD.out
                                    obtain ⟨pf, cf, hvf, -⟩ := id hsr
                                    obtain ⟨LN, hLN⟩ : ∃ n, n = (names ++ [bl XN]).length := ⟨_, rfl⟩
                                    rw [← hLN] at hvf
                                    clear hLN
                                    subst hvf
                                    have HSF := hide hsr
                                    clear hsr hbd
                                    refine hK _ _ ?_
                                    clear hK K
                                    refine wpAny_ready (rs := [1]) (by kernel_rfl) (by simp) ?_
                                    refine AllReady.cons rfl (fun K hK => ?_) AllReady.nil
                                    go_simp
                                    go_wp2_with fail
                                    as_aux_lemma =>
                                      refine wpAny_ready (rs := [9]) (by kernel_rfl) (by simp) ?_
                                      refine AllReady.cons rfl (fun K hK => ?_) AllReady.nil
                                      go_simp
                                      go_wp2_with fail
                                      refine (HREC.out wz16 _ (bel2 HBW.out HBD.out) HSF.out).mono ?_
                                      rintro e wz17 ⟨rfl, hbx⟩
                                      have HBE := hide (bel2 (bel2 HBW.out HBD.out) hbx)
                                      clear hbx
                                      go_wp2_with fail
                                      refine wpAny_at (i := 10) (v := .bool (!S)) (a' := ?ax10q8) rfl (by kernel_rfl) (by kernel_rfl) (by kernel_rfl) (fun _ _ _ h => h) (Or.inl ⟨by rfl, ?yi⟩) ?ha ?_
                                      case yi => intro w; go_simp; try omega
                                      case ha => go_simp; exact rfl
                                      refine wpAny_done (by kernel_rfl) ?_ _
                                      go_wp2_with fail
                                      go_meet
                                      exact ⟨rfl, HBE⟩
                              · obtain ⟨wz23, hwz23⟩ : ∃ x, x = wz1.alloc (.cells #[.string XN] 9) := ⟨_, rfl⟩
                                have hbwz23 : Below wz1.heap.size wz1 wz23 := by rw [hwz23]; exact (Below.refl _ _).alloc (Nat.le_refl _) _
                                have HN : Hid (wz23.cell? ⟨wz1.heap.size, 0, none⟩ = some (.string XN)) := hide (by rw [hwz23, new_cell]; rfl)
                                have HGN : Hid (wz1.heap.size ≠ gA) := hide (Ne.symm (Nat.ne_of_lt (HA.out.lt gA rfl).2))
                                have HA := hide (own_below HA.out hbwz23)
                                have HBD := hide (bel2 HBD.out hbwz23)
                                have y0 := cell_keep HY0.out HBD.out
                                have y3 := cell_keep HY3.out HBD.out
                                go_simp
                                go_wp2_with fail
                                rw [← hwz23]
                                clear hwz23 hbwz23
                                obtain ⟨gN, hgN⟩ : ∃ gN, gN = wz1.heap.size := ⟨_, rfl⟩
                                rw [← hgN] at HN HGN ⊢
                                clear hgN
                                refine wpAny_ready (rs := [1, 4]) (by kernel_rfl) (by simp) ?_
                                refine AllReady.cons rfl (fun K hK => ?_) (AllReady.cons rfl (fun K hK => ?_) AllReady.nil)
                                · go_simp
                                  go_wp2_with fail
                                  refine wpAny_ready (rs := [4]) (by kernel_rfl) (by simp) ?_
                                  refine AllReady.cons rfl (fun K hK => ?_) AllReady.nil
                                  rw [if_pos (by rfl)]
                                  refine wp_append_strs (.tmp 131) (.tmp 132) rfl wd wz23 (.slice (some ⟨gA, 0, none⟩) 0 0) (.slice pi M ci) names rfl rfl HBD.out HA.out (fun h => by cases h) HSD.out (by have := HMB.out; omega) ?_
                                  intro va wz29 ho hv hbd hgr
                                  have HN := hide (grown_cell HN.out hgr HGN.out)
                                  have HBD := hide hbd
                                  have y0 := cell_keep HY0.out HBD.out
                                  have y3 := cell_keep HY3.out HBD.out
                                  obtain ⟨pa, ca, rfl⟩ := own_len ho
                                  have HA := hide ho
                                  have HV := hide hv
                                  clear ho hv hbd hgr
                                  refine hK _ _ ?_
                                  clear hK K
                                  refine wpAny_ready (rs := [8]) (by kernel_rfl) (by simp) ?_
                                  refine AllReady.cons rfl (fun K hK => ?_) AllReady.nil
                                  rw [if_pos (by rfl)]
                                  refine wp_append_str1 (.tmp 133) (.tmp 136) rfl wd wz29 _ names XN gN rfl rfl HBD.out HA.out HV.out HN.out (by have := HMB.out; omega) ?_
                                  intro vf wz30 hsr hbd
                                  have HBD := hide hbd
                                  have y0 := cell_keep HY0.out HBD.out
                                  have y3 := cell_keep HY3.out HBD.out
                                  obtain ⟨pf, cf, hvf, -⟩ := id hsr
                                  obtain ⟨LN, hLN⟩ : ∃ n, n = (names ++ [bl XN]).length := ⟨_, rfl⟩
                                  rw [← hLN] at hvf
                                  clear hLN
                                  subst hvf
                                  have HSF := hide hsr
                                  clear hsr hbd
                                  refine hK _ _ ?_
                                  clear hK K
                                  as_aux_lemma =>
                                    refine wpAny_ready (rs := [9]) (by kernel_rfl) (by simp) ?_
                                    refine AllReady.cons rfl (fun K hK => ?_) AllReady.nil
                                    go_simp
                                    go_wp2_with fail
                                    refine (HREC.out wz30 _ (bel2 HBW.out HBD.out) HSF.out).mono ?_
                                    rintro e wz31 ⟨rfl, hbx⟩
                                    have HBE := hide (bel2 (bel2 HBW.out HBD.out) hbx)
                                    clear hbx
                                    go_wp2_with fail
                                    refine wpAny_at (i := 10) (v := .bool (!S)) (a' := ?ax10q13) rfl (by kernel_rfl) (by kernel_rfl) (by kernel_rfl) (fun _ _ _ h => h) (Or.inl ⟨by rfl, ?yi⟩) ?ha ?_
                                    case yi => intro w; go_simp; try omega
                                    case ha => go_simp; exact rfl
                                    refine wpAny_done (by kernel_rfl) ?_ _
                                    go_wp2_with fail
                                    go_meet
                                    exact ⟨rfl, HBE⟩
                                · rw [if_pos (by rfl)]
                                  refine wp_append_strs (.tmp 131) (.tmp 132) rfl wd wz23 (.slice (some ⟨gA, 0, none⟩) 0 0) (.slice pi M ci) names rfl rfl HBD.out HA.out (fun h => by cases h) HSD.out (by have := HMB.out; omega) ?_
                                  intro va wz24 ho hv hbd hgr
                                  have HN := hide (grown_cell HN.out hgr HGN.out)
                                  have HBD := hide hbd
                                  have y0 := cell_keep HY0.out HBD.out
                                  have y3 := cell_keep HY3.out HBD.out
                                  obtain ⟨pa, ca, rfl⟩ := own_len ho
                                  have HA := hide ho
                                  have HV := hide hv
                                  clear ho hv hbd hgr
                                  refine hK _ _ ?_
                                  clear hK K
                                  refine wpAny_ready (rs := [1, 8]) (by kernel_rfl) (by simp) ?_
                                  refine AllReady.cons rfl (fun K hK => ?_) (AllReady.cons rfl (fun K hK => ?_) AllReady.nil)
                                  · go_simp
                                    go_wp2_with fail
                                    refine wpAny_ready (rs := [8]) (by kernel_rfl) (by simp) ?_
                                    refine AllReady.cons rfl (fun K hK => ?_) AllReady.nil
                                    rw [if_pos (by rfl)]
                                    refine wp_append_str1 (.tmp 133) (.tmp 136) rfl wd wz24 _ names XN gN rfl rfl HBD.out HA.out HV.out HN.out (by have := HMB.out; omega) ?_
                                    intro vf wz27 hsr hbd
                                    have HBD := hide hbd
                                    have y0 := cell_keep HY0.out HBD.out
                                    have y3 := cell_keep HY3.out HBD.out
                                    obtain ⟨pf, cf, hvf, -⟩ := id hsr
                                    obtain ⟨LN, hLN⟩ : ∃ n, n = (names ++ [bl XN]).length := ⟨_, rfl⟩
                                    rw [← hLN] at hvf
                                    clear hLN
                                    subst hvf
                                    have HSF := hide hsr
                                    clear hsr hbd
                                    refine hK _ _ ?_
                                    clear hK K
                                    as_aux_lemma =>
                                      refine wpAny_ready (rs := [9]) (by kernel_rfl) (by simp) ?_
                                      refine AllReady.cons rfl (fun K hK => ?_) AllReady.nil
                                      go_simp
                                      go_wp2_with fail
                                      refine (HREC.out wz27 _ (bel2 HBW.out HBD.out) HSF.out).mono ?_
                                      rintro e wz28 ⟨rfl, hbx⟩
                                      have HBE := hide (bel2 (bel2 HBW.out HBD.out) hbx)
                                      clear hbx
                                      go_wp2_with fail
                                      refine wpAny_at (i := 10) (v := .bool (!S)) (a' := ?ax10q12) rfl (by kernel_rfl) (by kernel_rfl) (by kernel_rfl) (fun _ _ _ h => h) (Or.inl ⟨by rfl, ?yi⟩) ?ha ?_
                                      case yi => intro w; go_simp; try omega
                                      case ha => go_simp; exact rfl
                                      refine wpAny_done (by kernel_rfl) ?_ _
                                      go_wp2_with fail
                                      go_meet
                                      exact ⟨rfl, HBE⟩
                                  · rw [if_pos (by rfl)]
                                    refine wp_append_str1 (.tmp 133) (.tmp 136) rfl wd wz24 _ names XN gN rfl rfl HBD.out HA.out HV.out HN.out (by have := HMB.out; omega) ?_
                                    intro vf wz25 hsr hbd
                                    have HBD := hide hbd
                                    have y0 := cell_keep HY0.out HBD.out
                                    have y3 := cell_keep HY3.out HBD.out
                                    obtain ⟨pf, cf, hvf, -⟩ := id hsr
                                    obtain ⟨LN, hLN⟩ : ∃ n, n = (names ++ [bl XN]).length := ⟨_, rfl⟩
                                    rw [← hLN] at hvf
                                    clear hLN
                                    subst hvf
                                    have HSF := hide hsr
                                    clear hsr hbd
                                    refine hK _ _ ?_
                                    clear hK K
                                    refine wpAny_ready (rs := [1]) (by kernel_rfl) (by simp) ?_
                                    refine AllReady.cons rfl (fun K hK => ?_) AllReady.nil
                                    go_simp
                                    go_wp2_with fail
                                    as_aux_lemma =>
                                      refine wpAny_ready (rs := [9]) (by kernel_rfl) (by simp) ?_
                                      refine AllReady.cons rfl (fun K hK => ?_) AllReady.nil
                                      go_simp
                                      go_wp2_with fail
                                      refine (HREC.out wz25 _ (bel2 HBW.out HBD.out) HSF.out).mono ?_
                                      rintro e wz26 ⟨rfl, hbx⟩
                                      have HBE := hide (bel2 (bel2 HBW.out HBD.out) hbx)
                                      clear hbx
                                      go_wp2_with fail
                                      refine wpAny_at (i := 10) (v := .bool (!S)) (a' := ?ax10q11) rfl (by kernel_rfl) (by kernel_rfl) (by kernel_rfl) (fun _ _ _ h => h) (Or.inl ⟨by rfl, ?yi⟩) ?ha ?_
                                      case yi => intro w; go_simp; try omega
                                      case ha => go_simp; exact rfl
                                      refine wpAny_done (by kernel_rfl) ?_ _
                                      go_wp2_with fail
                                      go_meet
                                      exact ⟨rfl, HBE⟩
                        · as_aux_lemma =>
                            go_simp
                            go_wp2_with fail
                            refine wpAny_ready (rs := [1, 2, 7]) (by kernel_rfl) (by simp) ?_
                            refine AllReady.cons rfl (fun K hK => ?_) (AllReady.cons rfl (fun K hK => ?_) (AllReady.cons rfl (fun K hK => ?_) AllReady.nil))
                            · go_simp
                              go_wp2_with fail
                              refine wpAny_ready (rs := [2, 7]) (by kernel_rfl) (by simp) ?_
                              refine AllReady.cons rfl (fun K hK => ?_) (AllReady.cons rfl (fun K hK => ?_) AllReady.nil)
                              · obtain ⟨gA, hgA⟩ : ∃ gA, gA = wd.heap.size := ⟨_, rfl⟩
                                obtain ⟨wz93, hwz93⟩ : ∃ x, x = wd.alloc (.cells #[] 9) := ⟨_, rfl⟩
                                have hbwz93 : Below wd.heap.size wd wz93 := by rw [hwz93]; exact (Below.refl _ _).alloc (Nat.le_refl _) _
                                have HA : Hid (wz93.ownsRow wd.heap.size 9 1 (.slice (some ⟨gA, 0, none⟩) 0 0) 0 []) := hide (by rw [hwz93, hgA]; exact World.ownsRow_made wd #[] 0 HBD.out.size (by decide) rfl)
                                have HBD := hide (bel2 HBD.out hbwz93)
                                have y0 := cell_keep HY0.out HBD.out
                                have y3 := cell_keep HY3.out HBD.out
                                go_simp
                                go_wp2_with fail
                                rw [← hwz93, ← hgA]
                                clear hwz93 hbwz93 hgA
                                refine wpAny_ready (rs := [4, 7]) (by kernel_rfl) (by simp) ?_
                                refine AllReady.cons rfl (fun K hK => ?_) (AllReady.cons rfl (fun K hK => ?_) AllReady.nil)
                                · rw [if_pos (by rfl)]
                                  refine wp_append_strs (.tmp 131) (.tmp 132) rfl wd wz93 (.slice (some ⟨gA, 0, none⟩) 0 0) (.slice pi M ci) names rfl rfl HBD.out HA.out (fun h => by cases h) HSD.out (by have := HMB.out; omega) ?_
                                  intro va wz94 ho hv hbd hgr
                                  have HBD := hide hbd
                                  have y0 := cell_keep HY0.out HBD.out
                                  have y3 := cell_keep HY3.out HBD.out
                                  obtain ⟨pa, ca, rfl⟩ := own_len ho
                                  have HA := hide ho
                                  have HV := hide hv
                                  clear ho hv hbd hgr
                                  refine hK _ _ ?_
                                  clear hK K
                                  refine wpAny_ready (rs := [7]) (by kernel_rfl) (by simp) ?_
                                  refine AllReady.cons rfl (fun K hK => ?_) AllReady.nil
                                  obtain ⟨wz95, hwz95⟩ : ∃ x, x = wz94.alloc (.cells #[.string XN] 9) := ⟨_, rfl⟩
                                  have hbwz95 : Below wz94.heap.size wz94 wz95 := by rw [hwz95]; exact (Below.refl _ _).alloc (Nat.le_refl _) _
                                  have HN : Hid (wz95.cell? ⟨wz94.heap.size, 0, none⟩ = some (.string XN)) := hide (by rw [hwz95, new_cell]; rfl)
                                  have HA := hide (own_below HA.out hbwz95)
                                  have HBD := hide (bel2 HBD.out hbwz95)
                                  have y0 := cell_keep HY0.out HBD.out
                                  have y3 := cell_keep HY3.out HBD.out
                                  go_simp
                                  go_wp2_with fail
                                  rw [← hwz95]
                                  clear hwz95 hbwz95
                                  obtain ⟨gN, hgN⟩ : ∃ gN, gN = wz94.heap.size := ⟨_, rfl⟩
                                  rw [← hgN] at HN ⊢
                                  clear hgN
                                  refine wpAny_ready (rs := [8]) (by kernel_rfl) (by simp) ?_
                                  refine AllReady.cons rfl (fun K hK => ?_) AllReady.nil
                                  rw [if_pos (by rfl)]
                                  refine wp_append_str1 (.tmp 133) (.tmp 136) rfl wd wz95 _ names XN gN rfl rfl HBD.out HA.out HV.out HN.out (by have := HMB.out; omega) ?_
                                  intro vf wz96 hsr hbd
                                  have HBD := hide hbd
                                  have y0 := cell_keep HY0.out HBD.out
                                  have y3 := cell_keep HY3.out HBD.out
                                  obtain ⟨pf, cf, hvf, -⟩ := id hsr
                                  obtain ⟨LN, hLN⟩ : ∃ n, n = (names ++ [bl XN]).length := ⟨_, rfl⟩
                                  rw [← hLN] at hvf
                                  clear hLN
                                  subst hvf
                                  have HSF := hide hsr
                                  clear hsr hbd
                                  refine hK _ _ ?_
                                  clear hK K
                                  as_aux_lemma =>
                                    refine wpAny_ready (rs := [9]) (by kernel_rfl) (by simp) ?_
                                    refine AllReady.cons rfl (fun K hK => ?_) AllReady.nil
                                    go_simp
                                    go_wp2_with fail
                                    refine (HREC.out wz96 _ (bel2 HBW.out HBD.out) HSF.out).mono ?_
                                    rintro e wz97 ⟨rfl, hbx⟩
                                    have HBE := hide (bel2 (bel2 HBW.out HBD.out) hbx)
                                    clear hbx
                                    go_wp2_with fail
                                    refine wpAny_at (i := 10) (v := .bool (!S)) (a' := ?ax10q31) rfl (by kernel_rfl) (by kernel_rfl) (by kernel_rfl) (fun _ _ _ h => h) (Or.inl ⟨by rfl, ?yi⟩) ?ha ?_
                                    case yi => intro w; go_simp; try omega
                                    case ha => go_simp; exact rfl
                                    refine wpAny_done (by kernel_rfl) ?_ _
                                    go_wp2_with fail
                                    go_meet
                                    exact ⟨rfl, HBE⟩
                                · obtain ⟨wz98, hwz98⟩ : ∃ x, x = wz93.alloc (.cells #[.string XN] 9) := ⟨_, rfl⟩
                                  have hbwz98 : Below wz93.heap.size wz93 wz98 := by rw [hwz98]; exact (Below.refl _ _).alloc (Nat.le_refl _) _
                                  have HN : Hid (wz98.cell? ⟨wz93.heap.size, 0, none⟩ = some (.string XN)) := hide (by rw [hwz98, new_cell]; rfl)
                                  have HGN : Hid (wz93.heap.size ≠ gA) := hide (Ne.symm (Nat.ne_of_lt (HA.out.lt gA rfl).2))
                                  have HA := hide (own_below HA.out hbwz98)
                                  have HBD := hide (bel2 HBD.out hbwz98)
                                  have y0 := cell_keep HY0.out HBD.out
                                  have y3 := cell_keep HY3.out HBD.out
                                  go_simp
                                  go_wp2_with fail
                                  rw [← hwz98]
                                  clear hwz98 hbwz98
                                  obtain ⟨gN, hgN⟩ : ∃ gN, gN = wz93.heap.size := ⟨_, rfl⟩
                                  rw [← hgN] at HN HGN ⊢
                                  clear hgN
                                  refine wpAny_ready (rs := [4]) (by kernel_rfl) (by simp) ?_
                                  refine AllReady.cons rfl (fun K hK => ?_) AllReady.nil
                                  rw [if_pos (by rfl)]
                                  refine wp_append_strs (.tmp 131) (.tmp 132) rfl wd wz98 (.slice (some ⟨gA, 0, none⟩) 0 0) (.slice pi M ci) names rfl rfl HBD.out HA.out (fun h => by cases h) HSD.out (by have := HMB.out; omega) ?_
                                  intro va wz99 ho hv hbd hgr
                                  have HN := hide (grown_cell HN.out hgr HGN.out)
                                  have HBD := hide hbd
                                  have y0 := cell_keep HY0.out HBD.out
                                  have y3 := cell_keep HY3.out HBD.out
                                  obtain ⟨pa, ca, rfl⟩ := own_len ho
                                  have HA := hide ho
                                  have HV := hide hv
                                  clear ho hv hbd hgr
                                  refine hK _ _ ?_
                                  clear hK K
                                  refine wpAny_ready (rs := [8]) (by kernel_rfl) (by simp) ?_
                                  refine AllReady.cons rfl (fun K hK => ?_) AllReady.nil
                                  rw [if_pos (by rfl)]
                                  refine wp_append_str1 (.tmp 133) (.tmp 136) rfl wd wz99 _ names XN gN rfl rfl HBD.out HA.out HV.out HN.out (by have := HMB.out; omega) ?_
                                  intro vf wz100 hsr hbd
                                  have HBD := hide hbd
                                  have y0 := cell_keep HY0.out HBD.out
                                  have y3 := cell_keep HY3.out HBD.out
                                  obtain ⟨pf, cf, hvf, -⟩ := id hsr
                                  obtain ⟨LN, hLN⟩ : ∃ n, n = (names ++ [bl XN]).length := ⟨_, rfl⟩
                                  rw [← hLN] at hvf
                                  clear hLN
                                  subst hvf
                                  have HSF := hide hsr
                                  clear hsr hbd
                                  refine hK _ _ ?_
                                  clear hK K
                                  as_aux_lemma =>
                                    refine wpAny_ready (rs := [9]) (by kernel_rfl) (by simp) ?_
                                    refine AllReady.cons rfl (fun K hK => ?_) AllReady.nil
                                    go_simp
                                    go_wp2_with fail
                                    refine (HREC.out wz100 _ (bel2 HBW.out HBD.out) HSF.out).mono ?_
                                    rintro e wz101 ⟨rfl, hbx⟩
                                    have HBE := hide (bel2 (bel2 HBW.out HBD.out) hbx)
                                    clear hbx
                                    go_wp2_with fail
                                    refine wpAny_at (i := 10) (v := .bool (!S)) (a' := ?ax10q32) rfl (by kernel_rfl) (by kernel_rfl) (by kernel_rfl) (fun _ _ _ h => h) (Or.inl ⟨by rfl, ?yi⟩) ?ha ?_
                                    case yi => intro w; go_simp; try omega
                                    case ha => go_simp; exact rfl
                                    refine wpAny_done (by kernel_rfl) ?_ _
                                    go_wp2_with fail
                                    go_meet
                                    exact ⟨rfl, HBE⟩
                              · obtain ⟨wz102, hwz102⟩ : ∃ x, x = wd.alloc (.cells #[.string XN] 9) := ⟨_, rfl⟩
                                have hbwz102 : Below wd.heap.size wd wz102 := by rw [hwz102]; exact (Below.refl _ _).alloc (Nat.le_refl _) _
                                have HN : Hid (wz102.cell? ⟨wd.heap.size, 0, none⟩ = some (.string XN)) := hide (by rw [hwz102, new_cell]; rfl)
                                have HBD := hide (bel2 HBD.out hbwz102)
                                have y0 := cell_keep HY0.out HBD.out
                                have y3 := cell_keep HY3.out HBD.out
                                go_simp
                                go_wp2_with fail
                                rw [← hwz102]
                                clear hwz102 hbwz102
                                obtain ⟨gN, hgN⟩ : ∃ gN, gN = wd.heap.size := ⟨_, rfl⟩
                                rw [← hgN] at HN ⊢
                                clear hgN
                                refine wpAny_ready (rs := [2]) (by kernel_rfl) (by simp) ?_
                                refine AllReady.cons rfl (fun K hK => ?_) AllReady.nil
                                obtain ⟨gA, hgA⟩ : ∃ gA, gA = wz102.heap.size := ⟨_, rfl⟩
                                obtain ⟨wz103, hwz103⟩ : ∃ x, x = wz102.alloc (.cells #[] 9) := ⟨_, rfl⟩
                                have hbwz103 : Below wz102.heap.size wz102 wz103 := by rw [hwz103]; exact (Below.refl _ _).alloc (Nat.le_refl _) _
                                have HA : Hid (wz103.ownsRow wd.heap.size 9 1 (.slice (some ⟨gA, 0, none⟩) 0 0) 0 []) := hide (by rw [hwz103, hgA]; exact World.ownsRow_made wz102 #[] 0 HBD.out.size (by decide) rfl)
                                have HGN : Hid (gN ≠ gA) := hide (by rw [hgA]; exact Nat.ne_of_lt (cell_lt HN.out))
                                have HN := hide (cell_keep HN.out hbwz103)
                                have HBD := hide (bel2 HBD.out hbwz103)
                                have y0 := cell_keep HY0.out HBD.out
                                have y3 := cell_keep HY3.out HBD.out
                                go_simp
                                go_wp2_with fail
                                rw [← hwz103, ← hgA]
                                clear hwz103 hbwz103 hgA
                                refine wpAny_ready (rs := [4]) (by kernel_rfl) (by simp) ?_
                                refine AllReady.cons rfl (fun K hK => ?_) AllReady.nil
                                rw [if_pos (by rfl)]
                                refine wp_append_strs (.tmp 131) (.tmp 132) rfl wd wz103 (.slice (some ⟨gA, 0, none⟩) 0 0) (.slice pi M ci) names rfl rfl HBD.out HA.out (fun h => by cases h) HSD.out (by have := HMB.out; omega) ?_
                                intro va wz104 ho hv hbd hgr
                                have HN := hide (grown_cell HN.out hgr HGN.out)
                                have HBD := hide hbd
                                have y0 := cell_keep HY0.out HBD.out
                                have y3 := cell_keep HY3.out HBD.out
                                obtain ⟨pa, ca, rfl⟩ := own_len ho
                                have HA := hide ho
                                have HV := hide hv
                                clear ho hv hbd hgr
                                refine hK _ _ ?_
                                clear hK K
                                refine wpAny_ready (rs := [8]) (by kernel_rfl) (by simp) ?_
                                refine AllReady.cons rfl (fun K hK => ?_) AllReady.nil
                                rw [if_pos (by rfl)]
                                refine wp_append_str1 (.tmp 133) (.tmp 136) rfl wd wz104 _ names XN gN rfl rfl HBD.out HA.out HV.out HN.out (by have := HMB.out; omega) ?_
                                intro vf wz105 hsr hbd
                                have HBD := hide hbd
                                have y0 := cell_keep HY0.out HBD.out
                                have y3 := cell_keep HY3.out HBD.out
                                obtain ⟨pf, cf, hvf, -⟩ := id hsr
                                obtain ⟨LN, hLN⟩ : ∃ n, n = (names ++ [bl XN]).length := ⟨_, rfl⟩
                                rw [← hLN] at hvf
                                clear hLN
                                subst hvf
                                have HSF := hide hsr
                                clear hsr hbd
                                refine hK _ _ ?_
                                clear hK K
                                as_aux_lemma =>
                                  refine wpAny_ready (rs := [9]) (by kernel_rfl) (by simp) ?_
                                  refine AllReady.cons rfl (fun K hK => ?_) AllReady.nil
                                  go_simp
                                  go_wp2_with fail
                                  refine (HREC.out wz105 _ (bel2 HBW.out HBD.out) HSF.out).mono ?_
                                  rintro e wz106 ⟨rfl, hbx⟩
                                  have HBE := hide (bel2 (bel2 HBW.out HBD.out) hbx)
                                  clear hbx
                                  go_wp2_with fail
                                  refine wpAny_at (i := 10) (v := .bool (!S)) (a' := ?ax10q33) rfl (by kernel_rfl) (by kernel_rfl) (by kernel_rfl) (fun _ _ _ h => h) (Or.inl ⟨by rfl, ?yi⟩) ?ha ?_
                                  case yi => intro w; go_simp; try omega
                                  case ha => go_simp; exact rfl
                                  refine wpAny_done (by kernel_rfl) ?_ _
                                  go_wp2_with fail
                                  go_meet
                                  exact ⟨rfl, HBE⟩
                            · obtain ⟨gA, hgA⟩ : ∃ gA, gA = wd.heap.size := ⟨_, rfl⟩
                              obtain ⟨wz52, hwz52⟩ : ∃ x, x = wd.alloc (.cells #[] 9) := ⟨_, rfl⟩
                              have hbwz52 : Below wd.heap.size wd wz52 := by rw [hwz52]; exact (Below.refl _ _).alloc (Nat.le_refl _) _
                              have HA : Hid (wz52.ownsRow wd.heap.size 9 1 (.slice (some ⟨gA, 0, none⟩) 0 0) 0 []) := hide (by rw [hwz52, hgA]; exact World.ownsRow_made wd #[] 0 HBD.out.size (by decide) rfl)
                              have HBD := hide (bel2 HBD.out hbwz52)
                              have y0 := cell_keep HY0.out HBD.out
                              have y3 := cell_keep HY3.out HBD.out
                              go_simp
                              go_wp2_with fail
                              rw [← hwz52, ← hgA]
                              clear hwz52 hbwz52 hgA
                              refine wpAny_ready (rs := [1, 4, 7]) (by kernel_rfl) (by simp) ?_
                              refine AllReady.cons rfl (fun K hK => ?_) (AllReady.cons rfl (fun K hK => ?_) (AllReady.cons rfl (fun K hK => ?_) AllReady.nil))
                              · go_simp
                                go_wp2_with fail
                                refine wpAny_ready (rs := [4, 7]) (by kernel_rfl) (by simp) ?_
                                refine AllReady.cons rfl (fun K hK => ?_) (AllReady.cons rfl (fun K hK => ?_) AllReady.nil)
                                · rw [if_pos (by rfl)]
                                  refine wp_append_strs (.tmp 131) (.tmp 132) rfl wd wz52 (.slice (some ⟨gA, 0, none⟩) 0 0) (.slice pi M ci) names rfl rfl HBD.out HA.out (fun h => by cases h) HSD.out (by have := HMB.out; omega) ?_
                                  intro va wz71 ho hv hbd hgr
                                  have HBD := hide hbd
                                  have y0 := cell_keep HY0.out HBD.out
                                  have y3 := cell_keep HY3.out HBD.out
                                  obtain ⟨pa, ca, rfl⟩ := own_len ho
                                  have HA := hide ho
                                  have HV := hide hv
                                  clear ho hv hbd hgr
                                  refine hK _ _ ?_
                                  clear hK K
                                  refine wpAny_ready (rs := [7]) (by kernel_rfl) (by simp) ?_
                                  refine AllReady.cons rfl (fun K hK => ?_) AllReady.nil
                                  obtain ⟨wz72, hwz72⟩ : ∃ x, x = wz71.alloc (.cells #[.string XN] 9) := ⟨_, rfl⟩
                                  have hbwz72 : Below wz71.heap.size wz71 wz72 := by rw [hwz72]; exact (Below.refl _ _).alloc (Nat.le_refl _) _
                                  have HN : Hid (wz72.cell? ⟨wz71.heap.size, 0, none⟩ = some (.string XN)) := hide (by rw [hwz72, new_cell]; rfl)
                                  have HA := hide (own_below HA.out hbwz72)
                                  have HBD := hide (bel2 HBD.out hbwz72)
                                  have y0 := cell_keep HY0.out HBD.out
                                  have y3 := cell_keep HY3.out HBD.out
                                  go_simp
                                  go_wp2_with fail
                                  rw [← hwz72]
                                  clear hwz72 hbwz72
                                  obtain ⟨gN, hgN⟩ : ∃ gN, gN = wz71.heap.size := ⟨_, rfl⟩
                                  rw [← hgN] at HN ⊢
                                  clear hgN
                                  refine wpAny_ready (rs := [8]) (by kernel_rfl) (by simp) ?_
                                  refine AllReady.cons rfl (fun K hK => ?_) AllReady.nil
                                  rw [if_pos (by rfl)]
                                  refine wp_append_str1 (.tmp 133) (.tmp 136) rfl wd wz72 _ names XN gN rfl rfl HBD.out HA.out HV.out HN.out (by have := HMB.out; omega) ?_
                                  intro vf wz73 hsr hbd
                                  have HBD := hide hbd
                                  have y0 := cell_keep HY0.out HBD.out
                                  have y3 := cell_keep HY3.out HBD.out
                                  obtain ⟨pf, cf, hvf, -⟩ := id hsr
                                  obtain ⟨LN, hLN⟩ : ∃ n, n = (names ++ [bl XN]).length := ⟨_, rfl⟩
                                  rw [← hLN] at hvf
                                  clear hLN
                                  subst hvf
                                  have HSF := hide hsr
                                  clear hsr hbd
                                  refine hK _ _ ?_
                                  clear hK K
                                  as_aux_lemma =>
                                    refine wpAny_ready (rs := [9]) (by kernel_rfl) (by simp) ?_
                                    refine AllReady.cons rfl (fun K hK => ?_) AllReady.nil
                                    go_simp
                                    go_wp2_with fail
                                    refine (HREC.out wz73 _ (bel2 HBW.out HBD.out) HSF.out).mono ?_
                                    rintro e wz74 ⟨rfl, hbx⟩
                                    have HBE := hide (bel2 (bel2 HBW.out HBD.out) hbx)
                                    clear hbx
                                    go_wp2_with fail
                                    refine wpAny_at (i := 10) (v := .bool (!S)) (a' := ?ax10q25) rfl (by kernel_rfl) (by kernel_rfl) (by kernel_rfl) (fun _ _ _ h => h) (Or.inl ⟨by rfl, ?yi⟩) ?ha ?_
                                    case yi => intro w; go_simp; try omega
                                    case ha => go_simp; exact rfl
                                    refine wpAny_done (by kernel_rfl) ?_ _
                                    go_wp2_with fail
                                    go_meet
                                    exact ⟨rfl, HBE⟩
                                · obtain ⟨wz75, hwz75⟩ : ∃ x, x = wz52.alloc (.cells #[.string XN] 9) := ⟨_, rfl⟩
                                  have hbwz75 : Below wz52.heap.size wz52 wz75 := by rw [hwz75]; exact (Below.refl _ _).alloc (Nat.le_refl _) _
                                  have HN : Hid (wz75.cell? ⟨wz52.heap.size, 0, none⟩ = some (.string XN)) := hide (by rw [hwz75, new_cell]; rfl)
                                  have HGN : Hid (wz52.heap.size ≠ gA) := hide (Ne.symm (Nat.ne_of_lt (HA.out.lt gA rfl).2))
                                  have HA := hide (own_below HA.out hbwz75)
                                  have HBD := hide (bel2 HBD.out hbwz75)
                                  have y0 := cell_keep HY0.out HBD.out
                                  have y3 := cell_keep HY3.out HBD.out
                                  go_simp
                                  go_wp2_with fail
                                  rw [← hwz75]
                                  clear hwz75 hbwz75
                                  obtain ⟨gN, hgN⟩ : ∃ gN, gN = wz52.heap.size := ⟨_, rfl⟩
                                  rw [← hgN] at HN HGN ⊢
                                  clear hgN
                                  refine wpAny_ready (rs := [4]) (by kernel_rfl) (by simp) ?_
                                  refine AllReady.cons rfl (fun K hK => ?_) AllReady.nil
                                  rw [if_pos (by rfl)]
                                  refine wp_append_strs (.tmp 131) (.tmp 132) rfl wd wz75 (.slice (some ⟨gA, 0, none⟩) 0 0) (.slice pi M ci) names rfl rfl HBD.out HA.out (fun h => by cases h) HSD.out (by have := HMB.out; omega) ?_
                                  intro va wz76 ho hv hbd hgr
                                  have HN := hide (grown_cell HN.out hgr HGN.out)
                                  have HBD := hide hbd
                                  have y0 := cell_keep HY0.out HBD.out
                                  have y3 := cell_keep HY3.out HBD.out
                                  obtain ⟨pa, ca, rfl⟩ := own_len ho
                                  have HA := hide ho
                                  have HV := hide hv
                                  clear ho hv hbd hgr
                                  refine hK _ _ ?_
                                  clear hK K
                                  refine wpAny_ready (rs := [8]) (by kernel_rfl) (by simp) ?_
                                  refine AllReady.cons rfl (fun K hK => ?_) AllReady.nil
                                  rw [if_pos (by rfl)]
                                  refine wp_append_str1 (.tmp 133) (.tmp 136) rfl wd wz76 _ names XN gN rfl rfl HBD.out HA.out HV.out HN.out (by have := HMB.out; omega) ?_
                                  intro vf wz77 hsr hbd
                                  have HBD := hide hbd
                                  have y0 := cell_keep HY0.out HBD.out
                                  have y3 := cell_keep HY3.out HBD.out
                                  obtain ⟨pf, cf, hvf, -⟩ := id hsr
                                  obtain ⟨LN, hLN⟩ : ∃ n, n = (names ++ [bl XN]).length := ⟨_, rfl⟩
                                  rw [← hLN] at hvf
                                  clear hLN
                                  subst hvf
                                  have HSF := hide hsr
                                  clear hsr hbd
                                  refine hK _ _ ?_
                                  clear hK K
                                  as_aux_lemma =>
                                    refine wpAny_ready (rs := [9]) (by kernel_rfl) (by simp) ?_
                                    refine AllReady.cons rfl (fun K hK => ?_) AllReady.nil
                                    go_simp
                                    go_wp2_with fail
                                    refine (HREC.out wz77 _ (bel2 HBW.out HBD.out) HSF.out).mono ?_
                                    rintro e wz78 ⟨rfl, hbx⟩
                                    have HBE := hide (bel2 (bel2 HBW.out HBD.out) hbx)
                                    clear hbx
                                    go_wp2_with fail
                                    refine wpAny_at (i := 10) (v := .bool (!S)) (a' := ?ax10q26) rfl (by kernel_rfl) (by kernel_rfl) (by kernel_rfl) (fun _ _ _ h => h) (Or.inl ⟨by rfl, ?yi⟩) ?ha ?_
                                    case yi => intro w; go_simp; try omega
                                    case ha => go_simp; exact rfl
                                    refine wpAny_done (by kernel_rfl) ?_ _
                                    go_wp2_with fail
                                    go_meet
                                    exact ⟨rfl, HBE⟩
                              · rw [if_pos (by rfl)]
                                refine wp_append_strs (.tmp 131) (.tmp 132) rfl wd wz52 (.slice (some ⟨gA, 0, none⟩) 0 0) (.slice pi M ci) names rfl rfl HBD.out HA.out (fun h => by cases h) HSD.out (by have := HMB.out; omega) ?_
                                intro va wz53 ho hv hbd hgr
                                have HBD := hide hbd
                                have y0 := cell_keep HY0.out HBD.out
                                have y3 := cell_keep HY3.out HBD.out
                                obtain ⟨pa, ca, rfl⟩ := own_len ho
                                have HA := hide ho
                                have HV := hide hv
                                clear ho hv hbd hgr
                                refine hK _ _ ?_
                                clear hK K
                                refine wpAny_ready (rs := [1, 7]) (by kernel_rfl) (by simp) ?_
                                refine AllReady.cons rfl (fun K hK => ?_) (AllReady.cons rfl (fun K hK => ?_) AllReady.nil)
                                · go_simp
                                  go_wp2_with fail
                                  refine wpAny_ready (rs := [7]) (by kernel_rfl) (by simp) ?_
                                  refine AllReady.cons rfl (fun K hK => ?_) AllReady.nil
                                  obtain ⟨wz59, hwz59⟩ : ∃ x, x = wz53.alloc (.cells #[.string XN] 9) := ⟨_, rfl⟩
                                  have hbwz59 : Below wz53.heap.size wz53 wz59 := by rw [hwz59]; exact (Below.refl _ _).alloc (Nat.le_refl _) _
                                  have HN : Hid (wz59.cell? ⟨wz53.heap.size, 0, none⟩ = some (.string XN)) := hide (by rw [hwz59, new_cell]; rfl)
                                  have HA := hide (own_below HA.out hbwz59)
                                  have HBD := hide (bel2 HBD.out hbwz59)
                                  have y0 := cell_keep HY0.out HBD.out
                                  have y3 := cell_keep HY3.out HBD.out
                                  go_simp
                                  go_wp2_with fail
                                  rw [← hwz59]
                                  clear hwz59 hbwz59
                                  obtain ⟨gN, hgN⟩ : ∃ gN, gN = wz53.heap.size := ⟨_, rfl⟩
                                  rw [← hgN] at HN ⊢
                                  clear hgN
                                  refine wpAny_ready (rs := [8]) (by kernel_rfl) (by simp) ?_
                                  refine AllReady.cons rfl (fun K hK => ?_) AllReady.nil
                                  rw [if_pos (by rfl)]
                                  refine wp_append_str1 (.tmp 133) (.tmp 136) rfl wd wz59 _ names XN gN rfl rfl HBD.out HA.out HV.out HN.out (by have := HMB.out; omega) ?_
                                  intro vf wz60 hsr hbd
                                  have HBD := hide hbd
                                  have y0 := cell_keep HY0.out HBD.out
                                  have y3 := cell_keep HY3.out HBD.out
                                  obtain ⟨pf, cf, hvf, -⟩ := id hsr
                                  obtain ⟨LN, hLN⟩ : ∃ n, n = (names ++ [bl XN]).length := ⟨_, rfl⟩
                                  rw [← hLN] at hvf
                                  clear hLN
                                  subst hvf
                                  have HSF := hide hsr
                                  clear hsr hbd
                                  refine hK _ _ ?_
                                  clear hK K
                                  as_aux_lemma =>
                                    refine wpAny_ready (rs := [9]) (by kernel_rfl) (by simp) ?_
                                    refine AllReady.cons rfl (fun K hK => ?_) AllReady.nil
                                    go_simp
                                    go_wp2_with fail
                                    refine (HREC.out wz60 _ (bel2 HBW.out HBD.out) HSF.out).mono ?_
                                    rintro e wz61 ⟨rfl, hbx⟩
                                    have HBE := hide (bel2 (bel2 HBW.out HBD.out) hbx)
                                    clear hbx
                                    go_wp2_with fail
                                    refine wpAny_at (i := 10) (v := .bool (!S)) (a' := ?ax10q21) rfl (by kernel_rfl) (by kernel_rfl) (by kernel_rfl) (fun _ _ _ h => h) (Or.inl ⟨by rfl, ?yi⟩) ?ha ?_
                                    case yi => intro w; go_simp; try omega
                                    case ha => go_simp; exact rfl
                                    refine wpAny_done (by kernel_rfl) ?_ _
                                    go_wp2_with fail
                                    go_meet
                                    exact ⟨rfl, HBE⟩
                                · obtain ⟨wz54, hwz54⟩ : ∃ x, x = wz53.alloc (.cells #[.string XN] 9) := ⟨_, rfl⟩
                                  have hbwz54 : Below wz53.heap.size wz53 wz54 := by rw [hwz54]; exact (Below.refl _ _).alloc (Nat.le_refl _) _
                                  have HN : Hid (wz54.cell? ⟨wz53.heap.size, 0, none⟩ = some (.string XN)) := hide (by rw [hwz54, new_cell]; rfl)
                                  have HA := hide (own_below HA.out hbwz54)
                                  have HBD := hide (bel2 HBD.out hbwz54)
                                  have y0 := cell_keep HY0.out HBD.out
                                  have y3 := cell_keep HY3.out HBD.out
                                  go_simp
                                  go_wp2_with fail
                                  rw [← hwz54]
                                  clear hwz54 hbwz54
                                  obtain ⟨gN, hgN⟩ : ∃ gN, gN = wz53.heap.size := ⟨_, rfl⟩
                                  rw [← hgN] at HN ⊢
                                  clear hgN
                                  refine wpAny_ready (rs := [1, 8]) (by kernel_rfl) (by simp) ?_
                                  refine AllReady.cons rfl (fun K hK => ?_) (AllReady.cons rfl (fun K hK => ?_) AllReady.nil)
                                  · go_simp
                                    go_wp2_with fail
                                    refine wpAny_ready (rs := [8]) (by kernel_rfl) (by simp) ?_
                                    refine AllReady.cons rfl (fun K hK => ?_) AllReady.nil
                                    rw [if_pos (by rfl)]
                                    refine wp_append_str1 (.tmp 133) (.tmp 136) rfl wd wz54 _ names XN gN rfl rfl HBD.out HA.out HV.out HN.out (by have := HMB.out; omega) ?_
                                    intro vf wz57 hsr hbd
                                    have HBD := hide hbd
                                    have y0 := cell_keep HY0.out HBD.out
                                    have y3 := cell_keep HY3.out HBD.out
                                    obtain ⟨pf, cf, hvf, -⟩ := id hsr
                                    obtain ⟨LN, hLN⟩ : ∃ n, n = (names ++ [bl XN]).length := ⟨_, rfl⟩
                                    rw [← hLN] at hvf
                                    clear hLN
                                    subst hvf
                                    have HSF := hide hsr
                                    clear hsr hbd
                                    refine hK _ _ ?_
                                    clear hK K
                                    as_aux_lemma =>
                                      refine wpAny_ready (rs := [9]) (by kernel_rfl) (by simp) ?_
                                      refine AllReady.cons rfl (fun K hK => ?_) AllReady.nil
                                      go_simp
                                      go_wp2_with fail
                                      refine (HREC.out wz57 _ (bel2 HBW.out HBD.out) HSF.out).mono ?_
                                      rintro e wz58 ⟨rfl, hbx⟩
                                      have HBE := hide (bel2 (bel2 HBW.out HBD.out) hbx)
                                      clear hbx
                                      go_wp2_with fail
                                      refine wpAny_at (i := 10) (v := .bool (!S)) (a' := ?ax10q20) rfl (by kernel_rfl) (by kernel_rfl) (by kernel_rfl) (fun _ _ _ h => h) (Or.inl ⟨by rfl, ?yi⟩) ?ha ?_
                                      case yi => intro w; go_simp; try omega
                                      case ha => go_simp; exact rfl
                                      refine wpAny_done (by kernel_rfl) ?_ _
                                      go_wp2_with fail
                                      go_meet
                                      exact ⟨rfl, HBE⟩
                                  · rw [if_pos (by rfl)]
                                    refine wp_append_str1 (.tmp 133) (.tmp 136) rfl wd wz54 _ names XN gN rfl rfl HBD.out HA.out HV.out HN.out (by have := HMB.out; omega) ?_
                                    intro vf wz55 hsr hbd
                                    have HBD := hide hbd
                                    have y0 := cell_keep HY0.out HBD.out
                                    have y3 := cell_keep HY3.out HBD.out
                                    obtain ⟨pf, cf, hvf, -⟩ := id hsr
                                    obtain ⟨LN, hLN⟩ : ∃ n, n = (names ++ [bl XN]).length := ⟨_, rfl⟩
                                    rw [← hLN] at hvf
                                    clear hLN
                                    subst hvf
                                    have HSF := hide hsr
                                    clear hsr hbd
                                    refine hK _ _ ?_
                                    clear hK K
                                    refine wpAny_ready (rs := [1]) (by kernel_rfl) (by simp) ?_
                                    refine AllReady.cons rfl (fun K hK => ?_) AllReady.nil
                                    go_simp
                                    go_wp2_with fail
                                    as_aux_lemma =>
                                      refine wpAny_ready (rs := [9]) (by kernel_rfl) (by simp) ?_
                                      refine AllReady.cons rfl (fun K hK => ?_) AllReady.nil
                                      go_simp
                                      go_wp2_with fail
                                      refine (HREC.out wz55 _ (bel2 HBW.out HBD.out) HSF.out).mono ?_
                                      rintro e wz56 ⟨rfl, hbx⟩
                                      have HBE := hide (bel2 (bel2 HBW.out HBD.out) hbx)
                                      clear hbx
                                      go_wp2_with fail
                                      refine wpAny_at (i := 10) (v := .bool (!S)) (a' := ?ax10q19) rfl (by kernel_rfl) (by kernel_rfl) (by kernel_rfl) (fun _ _ _ h => h) (Or.inl ⟨by rfl, ?yi⟩) ?ha ?_
                                      case yi => intro w; go_simp; try omega
                                      case ha => go_simp; exact rfl
                                      refine wpAny_done (by kernel_rfl) ?_ _
                                      go_wp2_with fail
                                      go_meet
                                      exact ⟨rfl, HBE⟩
                              · obtain ⟨wz62, hwz62⟩ : ∃ x, x = wz52.alloc (.cells #[.string XN] 9) := ⟨_, rfl⟩
                                have hbwz62 : Below wz52.heap.size wz52 wz62 := by rw [hwz62]; exact (Below.refl _ _).alloc (Nat.le_refl _) _
                                have HN : Hid (wz62.cell? ⟨wz52.heap.size, 0, none⟩ = some (.string XN)) := hide (by rw [hwz62, new_cell]; rfl)
                                have HGN : Hid (wz52.heap.size ≠ gA) := hide (Ne.symm (Nat.ne_of_lt (HA.out.lt gA rfl).2))
                                have HA := hide (own_below HA.out hbwz62)
                                have HBD := hide (bel2 HBD.out hbwz62)
                                have y0 := cell_keep HY0.out HBD.out
                                have y3 := cell_keep HY3.out HBD.out
                                go_simp
                                go_wp2_with fail
                                rw [← hwz62]
                                clear hwz62 hbwz62
                                obtain ⟨gN, hgN⟩ : ∃ gN, gN = wz52.heap.size := ⟨_, rfl⟩
                                rw [← hgN] at HN HGN ⊢
                                clear hgN
                                refine wpAny_ready (rs := [1, 4]) (by kernel_rfl) (by simp) ?_
                                refine AllReady.cons rfl (fun K hK => ?_) (AllReady.cons rfl (fun K hK => ?_) AllReady.nil)
                                · go_simp
                                  go_wp2_with fail
                                  refine wpAny_ready (rs := [4]) (by kernel_rfl) (by simp) ?_
                                  refine AllReady.cons rfl (fun K hK => ?_) AllReady.nil
                                  rw [if_pos (by rfl)]
                                  refine wp_append_strs (.tmp 131) (.tmp 132) rfl wd wz62 (.slice (some ⟨gA, 0, none⟩) 0 0) (.slice pi M ci) names rfl rfl HBD.out HA.out (fun h => by cases h) HSD.out (by have := HMB.out; omega) ?_
                                  intro va wz68 ho hv hbd hgr
                                  have HN := hide (grown_cell HN.out hgr HGN.out)
                                  have HBD := hide hbd
                                  have y0 := cell_keep HY0.out HBD.out
                                  have y3 := cell_keep HY3.out HBD.out
                                  obtain ⟨pa, ca, rfl⟩ := own_len ho
                                  have HA := hide ho
                                  have HV := hide hv
                                  clear ho hv hbd hgr
                                  refine hK _ _ ?_
                                  clear hK K
                                  refine wpAny_ready (rs := [8]) (by kernel_rfl) (by simp) ?_
                                  refine AllReady.cons rfl (fun K hK => ?_) AllReady.nil
                                  rw [if_pos (by rfl)]
                                  refine wp_append_str1 (.tmp 133) (.tmp 136) rfl wd wz68 _ names XN gN rfl rfl HBD.out HA.out HV.out HN.out (by have := HMB.out; omega) ?_
                                  intro vf wz69 hsr hbd
                                  have HBD := hide hbd
                                  have y0 := cell_keep HY0.out HBD.out
                                  have y3 := cell_keep HY3.out HBD.out
                                  obtain ⟨pf, cf, hvf, -⟩ := id hsr
                                  obtain ⟨LN, hLN⟩ : ∃ n, n = (names ++ [bl XN]).length := ⟨_, rfl⟩
                                  rw [← hLN] at hvf
                                  clear hLN
                                  subst hvf
                                  have HSF := hide hsr
                                  clear hsr hbd
                                  refine hK _ _ ?_
                                  clear hK K
                                  as_aux_lemma =>
                                    refine wpAny_ready (rs := [9]) (by kernel_rfl) (by simp) ?_
                                    refine AllReady.cons rfl (fun K hK => ?_) AllReady.nil
                                    go_simp
                                    go_wp2_with fail
                                    refine (HREC.out wz69 _ (bel2 HBW.out HBD.out) HSF.out).mono ?_
                                    rintro e wz70 ⟨rfl, hbx⟩
                                    have HBE := hide (bel2 (bel2 HBW.out HBD.out) hbx)
                                    clear hbx
                                    go_wp2_with fail
                                    refine wpAny_at (i := 10) (v := .bool (!S)) (a' := ?ax10q24) rfl (by kernel_rfl) (by kernel_rfl) (by kernel_rfl) (fun _ _ _ h => h) (Or.inl ⟨by rfl, ?yi⟩) ?ha ?_
                                    case yi => intro w; go_simp; try omega
                                    case ha => go_simp; exact rfl
                                    refine wpAny_done (by kernel_rfl) ?_ _
                                    go_wp2_with fail
                                    go_meet
                                    exact ⟨rfl, HBE⟩
                                · rw [if_pos (by rfl)]
                                  refine wp_append_strs (.tmp 131) (.tmp 132) rfl wd wz62 (.slice (some ⟨gA, 0, none⟩) 0 0) (.slice pi M ci) names rfl rfl HBD.out HA.out (fun h => by cases h) HSD.out (by have := HMB.out; omega) ?_
                                  intro va wz63 ho hv hbd hgr
                                  have HN := hide (grown_cell HN.out hgr HGN.out)
                                  have HBD := hide hbd
                                  have y0 := cell_keep HY0.out HBD.out
                                  have y3 := cell_keep HY3.out HBD.out
                                  obtain ⟨pa, ca, rfl⟩ := own_len ho
                                  have HA := hide ho
                                  have HV := hide hv
                                  clear ho hv hbd hgr
                                  refine hK _ _ ?_
                                  clear hK K
                                  refine wpAny_ready (rs := [1, 8]) (by kernel_rfl) (by simp) ?_
                                  refine AllReady.cons rfl (fun K hK => ?_) (AllReady.cons rfl (fun K hK => ?_) AllReady.nil)
                                  · go_simp
                                    go_wp2_with fail
                                    refine wpAny_ready (rs := [8]) (by kernel_rfl) (by simp) ?_
                                    refine AllReady.cons rfl (fun K hK => ?_) AllReady.nil
                                    rw [if_pos (by rfl)]
                                    refine wp_append_str1 (.tmp 133) (.tmp 136) rfl wd wz63 _ names XN gN rfl rfl HBD.out HA.out HV.out HN.out (by have := HMB.out; omega) ?_
                                    intro vf wz66 hsr hbd
                                    have HBD := hide hbd
                                    have y0 := cell_keep HY0.out HBD.out
                                    have y3 := cell_keep HY3.out HBD.out
                                    obtain ⟨pf, cf, hvf, -⟩ := id hsr
                                    obtain ⟨LN, hLN⟩ : ∃ n, n = (names ++ [bl XN]).length := ⟨_, rfl⟩
                                    rw [← hLN] at hvf
                                    clear hLN
                                    subst hvf
                                    have HSF := hide hsr
                                    clear hsr hbd
                                    refine hK _ _ ?_
                                    clear hK K
                                    as_aux_lemma =>
                                      refine wpAny_ready (rs := [9]) (by kernel_rfl) (by simp) ?_
                                      refine AllReady.cons rfl (fun K hK => ?_) AllReady.nil
                                      go_simp
                                      go_wp2_with fail
                                      refine (HREC.out wz66 _ (bel2 HBW.out HBD.out) HSF.out).mono ?_
                                      rintro e wz67 ⟨rfl, hbx⟩
                                      have HBE := hide (bel2 (bel2 HBW.out HBD.out) hbx)
                                      clear hbx
                                      go_wp2_with fail
                                      refine wpAny_at (i := 10) (v := .bool (!S)) (a' := ?ax10q23) rfl (by kernel_rfl) (by kernel_rfl) (by kernel_rfl) (fun _ _ _ h => h) (Or.inl ⟨by rfl, ?yi⟩) ?ha ?_
                                      case yi => intro w; go_simp; try omega
                                      case ha => go_simp; exact rfl
                                      refine wpAny_done (by kernel_rfl) ?_ _
                                      go_wp2_with fail
                                      go_meet
                                      exact ⟨rfl, HBE⟩
                                  · rw [if_pos (by rfl)]
                                    refine wp_append_str1 (.tmp 133) (.tmp 136) rfl wd wz63 _ names XN gN rfl rfl HBD.out HA.out HV.out HN.out (by have := HMB.out; omega) ?_
                                    intro vf wz64 hsr hbd
                                    have HBD := hide hbd
                                    have y0 := cell_keep HY0.out HBD.out
                                    have y3 := cell_keep HY3.out HBD.out
                                    obtain ⟨pf, cf, hvf, -⟩ := id hsr
                                    obtain ⟨LN, hLN⟩ : ∃ n, n = (names ++ [bl XN]).length := ⟨_, rfl⟩
                                    rw [← hLN] at hvf
                                    clear hLN
                                    subst hvf
                                    have HSF := hide hsr
                                    clear hsr hbd
                                    refine hK _ _ ?_
                                    clear hK K
                                    refine wpAny_ready (rs := [1]) (by kernel_rfl) (by simp) ?_
                                    refine AllReady.cons rfl (fun K hK => ?_) AllReady.nil
                                    go_simp
                                    go_wp2_with fail
                                    as_aux_lemma =>
                                      refine wpAny_ready (rs := [9]) (by kernel_rfl) (by simp) ?_
                                      refine AllReady.cons rfl (fun K hK => ?_) AllReady.nil
                                      go_simp
                                      go_wp2_with fail
                                      refine (HREC.out wz64 _ (bel2 HBW.out HBD.out) HSF.out).mono ?_
                                      rintro e wz65 ⟨rfl, hbx⟩
                                      have HBE := hide (bel2 (bel2 HBW.out HBD.out) hbx)
                                      clear hbx
                                      go_wp2_with fail
                                      refine wpAny_at (i := 10) (v := .bool (!S)) (a' := ?ax10q22) rfl (by kernel_rfl) (by kernel_rfl) (by kernel_rfl) (fun _ _ _ h => h) (Or.inl ⟨by rfl, ?yi⟩) ?ha ?_
                                      case yi => intro w; go_simp; try omega
                                      case ha => go_simp; exact rfl
                                      refine wpAny_done (by kernel_rfl) ?_ _
                                      go_wp2_with fail
                                      go_meet
                                      exact ⟨rfl, HBE⟩
                            · obtain ⟨wz79, hwz79⟩ : ∃ x, x = wd.alloc (.cells #[.string XN] 9) := ⟨_, rfl⟩
                              have hbwz79 : Below wd.heap.size wd wz79 := by rw [hwz79]; exact (Below.refl _ _).alloc (Nat.le_refl _) _
                              have HN : Hid (wz79.cell? ⟨wd.heap.size, 0, none⟩ = some (.string XN)) := hide (by rw [hwz79, new_cell]; rfl)
                              have HBD := hide (bel2 HBD.out hbwz79)
                              have y0 := cell_keep HY0.out HBD.out
                              have y3 := cell_keep HY3.out HBD.out
                              go_simp
                              go_wp2_with fail
                              rw [← hwz79]
                              clear hwz79 hbwz79
                              obtain ⟨gN, hgN⟩ : ∃ gN, gN = wd.heap.size := ⟨_, rfl⟩
                              rw [← hgN] at HN ⊢
                              clear hgN
                              refine wpAny_ready (rs := [1, 2]) (by kernel_rfl) (by simp) ?_
                              refine AllReady.cons rfl (fun K hK => ?_) (AllReady.cons rfl (fun K hK => ?_) AllReady.nil)
                              · go_simp
                                go_wp2_with fail
                                refine wpAny_ready (rs := [2]) (by kernel_rfl) (by simp) ?_
                                refine AllReady.cons rfl (fun K hK => ?_) AllReady.nil
                                obtain ⟨gA, hgA⟩ : ∃ gA, gA = wz79.heap.size := ⟨_, rfl⟩
                                obtain ⟨wz89, hwz89⟩ : ∃ x, x = wz79.alloc (.cells #[] 9) := ⟨_, rfl⟩
                                have hbwz89 : Below wz79.heap.size wz79 wz89 := by rw [hwz89]; exact (Below.refl _ _).alloc (Nat.le_refl _) _
                                have HA : Hid (wz89.ownsRow wd.heap.size 9 1 (.slice (some ⟨gA, 0, none⟩) 0 0) 0 []) := hide (by rw [hwz89, hgA]; exact World.ownsRow_made wz79 #[] 0 HBD.out.size (by decide) rfl)
                                have HGN : Hid (gN ≠ gA) := hide (by rw [hgA]; exact Nat.ne_of_lt (cell_lt HN.out))
                                have HN := hide (cell_keep HN.out hbwz89)
                                have HBD := hide (bel2 HBD.out hbwz89)
                                have y0 := cell_keep HY0.out HBD.out
                                have y3 := cell_keep HY3.out HBD.out
                                go_simp
                                go_wp2_with fail
                                rw [← hwz89, ← hgA]
                                clear hwz89 hbwz89 hgA
                                refine wpAny_ready (rs := [4]) (by kernel_rfl) (by simp) ?_
                                refine AllReady.cons rfl (fun K hK => ?_) AllReady.nil
                                rw [if_pos (by rfl)]
                                refine wp_append_strs (.tmp 131) (.tmp 132) rfl wd wz89 (.slice (some ⟨gA, 0, none⟩) 0 0) (.slice pi M ci) names rfl rfl HBD.out HA.out (fun h => by cases h) HSD.out (by have := HMB.out; omega) ?_
                                intro va wz90 ho hv hbd hgr
                                have HN := hide (grown_cell HN.out hgr HGN.out)
                                have HBD := hide hbd
                                have y0 := cell_keep HY0.out HBD.out
                                have y3 := cell_keep HY3.out HBD.out
                                obtain ⟨pa, ca, rfl⟩ := own_len ho
                                have HA := hide ho
                                have HV := hide hv
                                clear ho hv hbd hgr
                                refine hK _ _ ?_
                                clear hK K
                                refine wpAny_ready (rs := [8]) (by kernel_rfl) (by simp) ?_
                                refine AllReady.cons rfl (fun K hK => ?_) AllReady.nil
                                rw [if_pos (by rfl)]
                                refine wp_append_str1 (.tmp 133) (.tmp 136) rfl wd wz90 _ names XN gN rfl rfl HBD.out HA.out HV.out HN.out (by have := HMB.out; omega) ?_
                                intro vf wz91 hsr hbd
                                have HBD := hide hbd
                                have y0 := cell_keep HY0.out HBD.out
                                have y3 := cell_keep HY3.out HBD.out
                                obtain ⟨pf, cf, hvf, -⟩ := id hsr
                                obtain ⟨LN, hLN⟩ : ∃ n, n = (names ++ [bl XN]).length := ⟨_, rfl⟩
                                rw [← hLN] at hvf
                                clear hLN
                                subst hvf
                                have HSF := hide hsr
                                clear hsr hbd
                                refine hK _ _ ?_
                                clear hK K
                                as_aux_lemma =>
                                  refine wpAny_ready (rs := [9]) (by kernel_rfl) (by simp) ?_
                                  refine AllReady.cons rfl (fun K hK => ?_) AllReady.nil
                                  go_simp
                                  go_wp2_with fail
                                  refine (HREC.out wz91 _ (bel2 HBW.out HBD.out) HSF.out).mono ?_
                                  rintro e wz92 ⟨rfl, hbx⟩
                                  have HBE := hide (bel2 (bel2 HBW.out HBD.out) hbx)
                                  clear hbx
                                  go_wp2_with fail
                                  refine wpAny_at (i := 10) (v := .bool (!S)) (a' := ?ax10q30) rfl (by kernel_rfl) (by kernel_rfl) (by kernel_rfl) (fun _ _ _ h => h) (Or.inl ⟨by rfl, ?yi⟩) ?ha ?_
                                  case yi => intro w; go_simp; try omega
                                  case ha => go_simp; exact rfl
                                  refine wpAny_done (by kernel_rfl) ?_ _
                                  go_wp2_with fail
                                  go_meet
                                  exact ⟨rfl, HBE⟩
                              · obtain ⟨gA, hgA⟩ : ∃ gA, gA = wz79.heap.size := ⟨_, rfl⟩
                                obtain ⟨wz80, hwz80⟩ : ∃ x, x = wz79.alloc (.cells #[] 9) := ⟨_, rfl⟩
                                have hbwz80 : Below wz79.heap.size wz79 wz80 := by rw [hwz80]; exact (Below.refl _ _).alloc (Nat.le_refl _) _
                                have HA : Hid (wz80.ownsRow wd.heap.size 9 1 (.slice (some ⟨gA, 0, none⟩) 0 0) 0 []) := hide (by rw [hwz80, hgA]; exact World.ownsRow_made wz79 #[] 0 HBD.out.size (by decide) rfl)
                                have HGN : Hid (gN ≠ gA) := hide (by rw [hgA]; exact Nat.ne_of_lt (cell_lt HN.out))
                                have HN := hide (cell_keep HN.out hbwz80)
                                have HBD := hide (bel2 HBD.out hbwz80)
                                have y0 := cell_keep HY0.out HBD.out
                                have y3 := cell_keep HY3.out HBD.out
                                go_simp
                                go_wp2_with fail
                                rw [← hwz80, ← hgA]
                                clear hwz80 hbwz80 hgA
                                refine wpAny_ready (rs := [1, 4]) (by kernel_rfl) (by simp) ?_
                                refine AllReady.cons rfl (fun K hK => ?_) (AllReady.cons rfl (fun K hK => ?_) AllReady.nil)
                                · go_simp
                                  go_wp2_with fail
                                  refine wpAny_ready (rs := [4]) (by kernel_rfl) (by simp) ?_
                                  refine AllReady.cons rfl (fun K hK => ?_) AllReady.nil
                                  rw [if_pos (by rfl)]
                                  refine wp_append_strs (.tmp 131) (.tmp 132) rfl wd wz80 (.slice (some ⟨gA, 0, none⟩) 0 0) (.slice pi M ci) names rfl rfl HBD.out HA.out (fun h => by cases h) HSD.out (by have := HMB.out; omega) ?_
                                  intro va wz86 ho hv hbd hgr
                                  have HN := hide (grown_cell HN.out hgr HGN.out)
                                  have HBD := hide hbd
                                  have y0 := cell_keep HY0.out HBD.out
                                  have y3 := cell_keep HY3.out HBD.out
                                  obtain ⟨pa, ca, rfl⟩ := own_len ho
                                  have HA := hide ho
                                  have HV := hide hv
                                  clear ho hv hbd hgr
                                  refine hK _ _ ?_
                                  clear hK K
                                  refine wpAny_ready (rs := [8]) (by kernel_rfl) (by simp) ?_
                                  refine AllReady.cons rfl (fun K hK => ?_) AllReady.nil
                                  rw [if_pos (by rfl)]
                                  refine wp_append_str1 (.tmp 133) (.tmp 136) rfl wd wz86 _ names XN gN rfl rfl HBD.out HA.out HV.out HN.out (by have := HMB.out; omega) ?_
                                  intro vf wz87 hsr hbd
                                  have HBD := hide hbd
                                  have y0 := cell_keep HY0.out HBD.out
                                  have y3 := cell_keep HY3.out HBD.out
                                  obtain ⟨pf, cf, hvf, -⟩ := id hsr
                                  obtain ⟨LN, hLN⟩ : ∃ n, n = (names ++ [bl XN]).length := ⟨_, rfl⟩
                                  rw [← hLN] at hvf
                                  clear hLN
                                  subst hvf
                                  have HSF := hide hsr
                                  clear hsr hbd
                                  refine hK _ _ ?_
                                  clear hK K
                                  as_aux_lemma =>
                                    refine wpAny_ready (rs := [9]) (by kernel_rfl) (by simp) ?_
                                    refine AllReady.cons rfl (fun K hK => ?_) AllReady.nil
                                    go_simp
                                    go_wp2_with fail
                                    refine (HREC.out wz87 _ (bel2 HBW.out HBD.out) HSF.out).mono ?_
                                    rintro e wz88 ⟨rfl, hbx⟩
                                    have HBE := hide (bel2 (bel2 HBW.out HBD.out) hbx)
                                    clear hbx
                                    go_wp2_with fail
                                    refine wpAny_at (i := 10) (v := .bool (!S)) (a' := ?ax10q29) rfl (by kernel_rfl) (by kernel_rfl) (by kernel_rfl) (fun _ _ _ h => h) (Or.inl ⟨by rfl, ?yi⟩) ?ha ?_
                                    case yi => intro w; go_simp; try omega
                                    case ha => go_simp; exact rfl
                                    refine wpAny_done (by kernel_rfl) ?_ _
                                    go_wp2_with fail
                                    go_meet
                                    exact ⟨rfl, HBE⟩
                                · rw [if_pos (by rfl)]
                                  refine wp_append_strs (.tmp 131) (.tmp 132) rfl wd wz80 (.slice (some ⟨gA, 0, none⟩) 0 0) (.slice pi M ci) names rfl rfl HBD.out HA.out (fun h => by cases h) HSD.out (by have := HMB.out; omega) ?_
                                  intro va wz81 ho hv hbd hgr
                                  have HN := hide (grown_cell HN.out hgr HGN.out)
                                  have HBD := hide hbd
                                  have y0 := cell_keep HY0.out HBD.out
                                  have y3 := cell_keep HY3.out HBD.out
                                  obtain ⟨pa, ca, rfl⟩ := own_len ho
                                  have HA := hide ho
                                  have HV := hide hv
                                  clear ho hv hbd hgr
                                  refine hK _ _ ?_
                                  clear hK K
                                  refine wpAny_ready (rs := [1, 8]) (by kernel_rfl) (by simp) ?_
                                  refine AllReady.cons rfl (fun K hK => ?_) (AllReady.cons rfl (fun K hK => ?_) AllReady.nil)
                                  · go_simp
                                    go_wp2_with fail
                                    refine wpAny_ready (rs := [8]) (by kernel_rfl) (by simp) ?_
                                    refine AllReady.cons rfl (fun K hK => ?_) AllReady.nil
                                    rw [if_pos (by rfl)]
                                    refine wp_append_str1 (.tmp 133) (.tmp 136) rfl wd wz81 _ names XN gN rfl rfl HBD.out HA.out HV.out HN.out (by have := HMB.out; omega) ?_
                                    intro vf wz84 hsr hbd
                                    have HBD := hide hbd
                                    have y0 := cell_keep HY0.out HBD.out
                                    have y3 := cell_keep HY3.out HBD.out
                                    obtain ⟨pf, cf, hvf, -⟩ := id hsr
                                    obtain ⟨LN, hLN⟩ : ∃ n, n = (names ++ [bl XN]).length := ⟨_, rfl⟩
                                    rw [← hLN] at hvf
                                    clear hLN
                                    subst hvf
                                    have HSF := hide hsr
                                    clear hsr hbd
                                    refine hK _ _ ?_
                                    clear hK K
                                    as_aux_lemma =>
                                      refine wpAny_ready (rs := [9]) (by kernel_rfl) (by simp) ?_
                                      refine AllReady.cons rfl (fun K hK => ?_) AllReady.nil
                                      go_simp
                                      go_wp2_with fail
                                      refine (HREC.out wz84 _ (bel2 HBW.out HBD.out) HSF.out).mono ?_
                                      rintro e wz85 ⟨rfl, hbx⟩
                                      have HBE := hide (bel2 (bel2 HBW.out HBD.out) hbx)
                                      clear hbx
                                      go_wp2_with fail
                                      refine wpAny_at (i := 10) (v := .bool (!S)) (a' := ?ax10q28) rfl (by kernel_rfl) (by kernel_rfl) (by kernel_rfl) (fun _ _ _ h => h) (Or.inl ⟨by rfl, ?yi⟩) ?ha ?_
                                      case yi => intro w; go_simp; try omega
                                      case ha => go_simp; exact rfl
                                      refine wpAny_done (by kernel_rfl) ?_ _
                                      go_wp2_with fail
                                      go_meet
                                      exact ⟨rfl, HBE⟩
                                  · rw [if_pos (by rfl)]
                                    refine wp_append_str1 (.tmp 133) (.tmp 136) rfl wd wz81 _ names XN gN rfl rfl HBD.out HA.out HV.out HN.out (by have := HMB.out; omega) ?_
                                    intro vf wz82 hsr hbd
                                    have HBD := hide hbd
                                    have y0 := cell_keep HY0.out HBD.out
                                    have y3 := cell_keep HY3.out HBD.out
                                    obtain ⟨pf, cf, hvf, -⟩ := id hsr
                                    obtain ⟨LN, hLN⟩ : ∃ n, n = (names ++ [bl XN]).length := ⟨_, rfl⟩
                                    rw [← hLN] at hvf
                                    clear hLN
                                    subst hvf
                                    have HSF := hide hsr
                                    clear hsr hbd
                                    refine hK _ _ ?_
                                    clear hK K
                                    refine wpAny_ready (rs := [1]) (by kernel_rfl) (by simp) ?_
                                    refine AllReady.cons rfl (fun K hK => ?_) AllReady.nil
                                    go_simp
                                    go_wp2_with fail
                                    as_aux_lemma =>
                                      refine wpAny_ready (rs := [9]) (by kernel_rfl) (by simp) ?_
                                      refine AllReady.cons rfl (fun K hK => ?_) AllReady.nil
                                      go_simp
                                      go_wp2_with fail
                                      refine (HREC.out wz82 _ (bel2 HBW.out HBD.out) HSF.out).mono ?_
                                      rintro e wz83 ⟨rfl, hbx⟩
                                      have HBE := hide (bel2 (bel2 HBW.out HBD.out) hbx)
                                      clear hbx
                                      go_wp2_with fail
                                      refine wpAny_at (i := 10) (v := .bool (!S)) (a' := ?ax10q27) rfl (by kernel_rfl) (by kernel_rfl) (by kernel_rfl) (fun _ _ _ h => h) (Or.inl ⟨by rfl, ?yi⟩) ?ha ?_
                                      case yi => intro w; go_simp; try omega
                                      case ha => go_simp; exact rfl
                                      refine wpAny_done (by kernel_rfl) ?_ _
                                      go_wp2_with fail
                                      go_meet
                                      exact ⟨rfl, HBE⟩
                    case rest =>
                      obtain ⟨rfl, HB7⟩ := hcut
                      cases S with
                      | false =>
                        have HF : Hid (R = false) := hide (by rw [HE6.out]; rfl)
                        clear HE6
                        go_wp2_with fail
                        all_goals
                          try rw [Exit.noGoto_ret]
                          go_ret
                          exact ⟨ret_bool HF.out.symm, HB7.out⟩
                      | true =>
                        have HE7 : Hid (R = stL b I false rest) := hide (by rw [HE6.out, HT.out]; rfl)
                        clear HE6
                        go_wp2_with fail
                        go_roundg rest.length
                        case measure => first | omega | (simp only [List.length_cons]; omega)
                        case rel => exact ⟨j + 1, d ++ [nd], rest, false, rfl, hdj2, by omega, by first | rfl | simp, HD2, HE7, hide (HP3.out.elim (fun h => absurd h.1 (by omega)) .inr), HB7⟩
end Go.Proofs.YtbcadeikdmlpoaaGreatDoor.Dm
