/-
  The laws' own: LightTokens, named.
-/
import Derived.Test.YtkdppcpkigpmdaaG31
import Derived.BigRegion
namespace Go.Proofs.Ytkdppcpkigpmdaa
open Go.RowKit
open Utf1

/-- A token's weight. -/
def tokW (e : Te) : Nat := 1 + min e.1.name.length 6000 + min e.1.text.length 6000 + min e.2.1.2.1 6000
def tokWs : List Te → Nat
  | [] => 0
  | e :: r => tokW e + tokWs r
theorem tokWs_app : ∀ a b, tokWs (a ++ b) = tokWs a + tokWs b
  | [], b => by simp [tokWs]
  | e :: a, b => by
    rw [List.cons_append, tokWs, tokWs, tokWs_app a b]
    omega
theorem light_facts : ∀ l : List Te, tokWs l < 6000 → l.length < 6000 ∧ textSum l < 6000 ∧ ∀ e ∈ l, e.1.name.length < 6000 ∧ e.2.1.2.1 < 6000
  | [], _ => ⟨by decide, by decide, fun e he => by cases he⟩
  | e :: r, h => by
    rw [tokWs] at h
    obtain ⟨h1, h2, h3⟩ := light_facts r (by omega)
    have hl : r.length ≤ tokWs r := by
      clear h h1 h2 h3
      induction r with
      | nil => exact Nat.le_refl _
      | cons a b ih =>
        rw [tokWs, List.length_cons]
        unfold tokW
        omega
    have ht : ∀ r : List Te, textSum r < 6000 → tokWs r < 6000 → textSum r ≤ tokWs r := by
      intro r
      induction r with
      | nil => intro _ _; exact Nat.le_refl _
      | cons a b ih =>
        intro k1 k2
        rw [textSum] at k1 ⊢
        rw [tokWs] at k2 ⊢
        have := ih (by omega) (by omega)
        unfold tokW at k2 ⊢
        omega
    have h2' := ht r h2 (by omega)
    unfold tokW at h
    refine ⟨by rw [List.length_cons]; omega, by rw [textSum]; omega, ?_⟩
    intro x hx
    rcases List.mem_cons.1 hx with rfl | hx
    · exact ⟨by omega, by omega⟩
    · exact h3 x hx

set_option maxRecDepth 100000 in
set_option maxHeartbeats 8000000 in
theorem light_st (w : World) (v : Value) (l : List Te) (hl : TokRow w v l) (hbig : ∀ e ∈ l, e.1.name.length ≤ maxLen ∧ e.1.text.length ≤ maxLen ∧ e.2.1.2.1 ≤ maxLen) (hlen : l.length ≤ maxLen) :
    Calls Try.prog 9 #[v] w fun e w' => e = .returned (.bool (decide (tokWs l < 6000))) ∧ Below w.heap.size w w' := by
  obtain ⟨p, c, rfl, hcell⟩ := hl
  have HC := hide hcell
  have HBG := hide hbig
  obtain ⟨N, hN⟩ : ∃ N, N = l.length := ⟨_, rfl⟩
  rw [← hN] at hlen ⊢
  have HN := hide hN
  unfold maxLen at hlen
  clear hcell hbig hN
  go_enter Try.func9, Try.ntmps9
  go_wp2_with fail
  go_loopg [3, 4] N (fun k v3 v4 wr => ∃ i S : Nat, i + k = N ∧ S ≤ 30000 ∧ v3 = .int .i64 (S : Int) ∧ v4 = .int .i64 (i : Int) ∧ Hid (S = tokWs (l.take i)) ∧ Hid (Below w.heap.size w wr))
  case atStart => exact ⟨0, 0, by omega, by omega, rfl, rfl, hide rfl, hide (Below.refl _ _)⟩
  case round =>
    obtain ⟨i, S, hik, hS, rfl, rfl, HS, HB⟩ := hrel
    by_cases hlt : i < N
    · have hd : decide ((i : Int) < (N : Int)) = true := decide_eq_true (by omega)
      have hlt' : i < l.length := by rw [← HN.out]; exact hlt
      have hge : l[i]? = some l[i] := List.getElem?_eq_getElem hlt'
      generalize l[i] = e at hge
      have htk : l.take (i + 1) = l.take i ++ [e] := by rw [List.take_add_one, hge]; rfl
      by_cases hs6 : S < 6000
      · have hd6 : decide ((S : Int) < 6000) = true := decide_eq_true (by omega)
        obtain ⟨g, off, rfl, x0, x1, x2, x3, x4⟩ := HC.out i e hge
        obtain ⟨b1, b2, b3⟩ := HBG.out e (List.mem_of_getElem? hge)
        unfold maxLen at b1 b2 b3
        have HT2 : Hid (tokWs (l.take (i + 1)) = S + tokW e) := hide (by rw [htk, tokWs_app, ← HS.out]; rfl)
        have hW : tokW e = 1 + min e.1.name.length 6000 + min e.1.text.length 6000 + min e.2.1.2.1 6000 := rfl
        obtain ⟨⟨kind, name, attrs, text⟩, ⟨ap, am, ac⟩, cl⟩ := e
        simp only [] at x0 x1 x2 x3 x4 hW b1 b2 b3
        replace x1 := cell_keep x1 HB.out
        replace x2 := cell_keep x2 HB.out
        replace x4 := cell_keep x4 HB.out
        obtain ⟨XN, hXN⟩ : ∃ X : ByteArray, X = ⟨name.toArray⟩ := ⟨_, rfl⟩
        obtain ⟨XT, hXT⟩ : ∃ X : ByteArray, X = ⟨text.toArray⟩ := ⟨_, rfl⟩
        rw [← hXN] at x1
        rw [← hXT] at x4
        have hsn : XN.size = name.length := by rw [hXN]; rfl
        have hst : XT.size = text.length := by rw [hXT]; rfl
        rw [← hsn] at b1 hW
        rw [← hst] at b2 hW
        obtain ⟨Wt, hWt⟩ : ∃ Wt, Wt = S + tokW (⟨kind, name, attrs, text⟩, (ap, am, ac), cl) := ⟨_, rfl⟩
        rw [← hWt] at HT2
        rw [hW] at hWt
        have HWT : Hid ((S : Int) + 1 + min (XN.size : Int) 6000 + min (XT.size : Int) 6000 + min (am : Int) 6000 = (Wt : Int) ∧ Wt ≤ 30000) := hide (by omega)
        clear x0 x3 hge htk HS hXN hXT hsn hst hW hWt HC HBG
        go_upto_region 5 with fail
        go_region
        rw [HWT.out.1]
        go_wp2_with fail
        go_roundg (gk - 1)
        case measure => omega
        case rel => exact ⟨i + 1, Wt, by omega, HWT.out.2, rfl, by first | rfl | simp, hide HT2.out.symm, hide (HB.out.trans ((bel_one _).mono HB.out.size))⟩
      · have hd6 : decide ((S : Int) < 6000) = false := decide_eq_false (by omega)
        have HE : Hid (¬ tokWs l < 6000) := hide (by
          have h1 : tokWs l = tokWs (l.take i) + tokWs (l.drop i) := by rw [← tokWs_app, List.take_append_drop]
          rw [← HS.out] at h1
          omega)
        clear HS hge htk
        go_wp2_with fail
        go_ret
        exact ⟨by rw [decide_eq_false HE.out]; first | rfl | simp, HB.out⟩
    · have hd : decide ((i : Int) < (N : Int)) = false := decide_eq_false (by omega)
      have HE : Hid (S = tokWs l) := hide (by
        have h1 := HS.out
        rw [List.take_of_length_le (by rw [← HN.out]; omega)] at h1
        exact h1)
      clear HS
      by_cases hs6 : S < 6000
      · have hd6 : decide ((S : Int) < 6000) = true := decide_eq_true (by omega)
        go_wp2_with fail
        go_ret
        exact ⟨by rw [decide_eq_true (show tokWs l < 6000 by rw [← HE.out]; exact hs6)]; first | rfl | (simp; omega) | simp, HB.out⟩
      · have hd6 : decide ((S : Int) < 6000) = false := decide_eq_false (by omega)
        go_wp2_with fail
        go_ret
        exact ⟨by rw [decide_eq_false (show ¬ tokWs l < 6000 by rw [← HE.out]; exact hs6)]; first | rfl | (simp; omega) | simp, HB.out⟩

set_option maxRecDepth 100000 in
set_option maxHeartbeats 8000000 in
theorem named_st (w : World) (v : Value) (l : List Te) (hl : TokRow w v l) (hlen : l.length ≤ maxLen) :
    Calls Try.prog 10 #[v] w fun e w' => ∃ b : Bool, e = .returned (.bool b) ∧ (b = true → ∀ e ∈ l, e.1.kind = 2 → e.1.name ≠ []) ∧ w' = w := by
  obtain ⟨p, c, rfl, hcell⟩ := hl
  have HC := hide hcell
  obtain ⟨N, hN⟩ : ∃ N, N = l.length := ⟨_, rfl⟩
  rw [← hN] at hlen ⊢
  have HN := hide hN
  unfold maxLen at hlen
  clear hcell hN
  go_enter Try.func10, Try.ntmps10
  go_wp2_with fail
  go_loopg [3] N (fun k v3 wr => ∃ i : Nat, i + k = N ∧ v3 = .int .i64 (i : Int) ∧ wr = w ∧ Hid (∀ e ∈ l.take i, e.1.kind = 2 → e.1.name ≠ []))
  case atStart => exact ⟨0, by omega, rfl, rfl, hide (fun e he => by simp at he)⟩
  case round =>
    obtain ⟨i, hik, rfl, rfl, HA⟩ := hrel
    by_cases hlt : i < N
    · have hd : decide ((i : Int) < (N : Int)) = true := decide_eq_true (by omega)
      have hlt' : i < l.length := by rw [← HN.out]; exact hlt
      have hge : l[i]? = some l[i] := List.getElem?_eq_getElem hlt'
      generalize l[i] = e at hge
      obtain ⟨g, off, rfl, x0, x1, x2, x3, x4⟩ := HC.out i e hge
      have HA2 : Hid ((e.1.kind = 2 → e.1.name ≠ []) → ∀ e ∈ l.take (i + 1), e.1.kind = 2 → e.1.name ≠ []) := hide (by
        intro h x hx
        rw [List.take_add_one, hge] at hx
        rcases List.mem_append.1 hx with hx | hx
        · exact HA.out x hx
        · simp only [Option.toList_some, List.mem_singleton] at hx
          rw [hx]
          exact h)
      obtain ⟨⟨kind, name, attrs, text⟩, ⟨ap, am, ac⟩, cl⟩ := e
      simp only [] at x0 x1 HA2
      obtain ⟨XN, hXN⟩ : ∃ X : ByteArray, X = ⟨name.toArray⟩ := ⟨_, rfl⟩
      rw [← hXN] at x1
      have q0 : XN.toList.isEmpty = decide (name = []) := by
        rw [ByteArray.toList_eq, hXN]
        show name.isEmpty = _
        cases name <;> simp
      clear hXN x2 x3 x4 hge HA
      by_cases hk : kind = 2
      · have k0 : (kind == 2) = true := by rw [hk]; rfl
        by_cases hnm : name = []
        · rw [decide_eq_true hnm] at q0
          subst hk
          clear HA2 hnm
          go_wp2_with fail
          try rw [Exit.noGoto_ret]
          go_ret
          exact ⟨false, rfl, (fun h => by cases h), rfl⟩
        · rw [decide_eq_false hnm] at q0
          have HA3 := hide (HA2.out (fun _ => hnm))
          subst hk
          clear HA2 hnm
          go_wp2_with fail
          go_roundg (gk - 1)
          case measure => omega
          case rel => exact ⟨i + 1, by omega, by first | rfl | simp, rfl, HA3⟩
      · have k0 : (kind == 2) = false := beq_eq_false_iff_ne.2 hk
        have HA3 := hide (HA2.out (fun h => absurd h hk))
        clear HA2
        go_wp2_with fail
        go_roundg (gk - 1)
        case measure => omega
        case rel => exact ⟨i + 1, by omega, by first | rfl | simp, rfl, HA3⟩
    · have hd : decide ((i : Int) < (N : Int)) = false := decide_eq_false (by omega)
      have HA2 : Hid (∀ e ∈ l, e.1.kind = 2 → e.1.name ≠ []) := hide (by
        have := HA.out
        rw [List.take_of_length_le (by rw [← HN.out]; omega)] at this
        exact this)
      clear HA
      go_wp2_with fail
      go_ret
      exact ⟨true, rfl, fun _ => HA2.out, rfl⟩
end Go.Proofs.Ytkdppcpkigpmdaa
