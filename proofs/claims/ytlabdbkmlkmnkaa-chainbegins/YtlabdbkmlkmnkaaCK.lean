/-
  Check, the program's and the document's; the document's Light and Same.
-/
import Derived.Test.YtlabdbkmlkmnkaaDW
namespace Go.Proofs.Ytlabdbkmlkmnkaa
open Go.RowKit
open Utf1 Pol8

/-- What is asked of chain.Check. -/
def CheckC : Prop := ∀ (v : Value) (ts : List It) (w : World), (∀ t ∈ ts, fits t.p) → ts.length ≤ 100000 → PolRow w v ts →
  Calls Try.prog 10 #[v] w fun e w' => (∃ E n, e = .returned (.tuple #[.int .i64 E, .int .i64 n]) ∧ Chk (ts.map It.p) E n) ∧ Below w.heap.size w w'
theorem map_len {ts : List It} {i : Nat} (h : i < ts.length) : i < (ts.map It.p).length := by rw [List.length_map]; exact h

set_option maxRecDepth 100000 in
set_option maxHeartbeats 16000000 in
theorem check_any (hR : RightC) (hS : StricterC) : CheckC := by
  intro v ts w hf hl hv
  have HV := hide hv
  obtain ⟨p, cap, rfl, hcap, -, -⟩ := hv
  obtain ⟨N, hN⟩ : ∃ N, N = ts.length := ⟨_, rfl⟩
  have HC : Hid (∀ i, i < N → ∀ wx, Below w.heap.size w wx → Calls Try.prog 19 #[.slice p N cap, .int .i64 (i : Int)] wx fun e w' => e = .returned (.int .i64 (wr (ts.map It.p) i)) ∧ Below w.heap.size w w') := hide (fun i hi wx h => by
    rw [hN] at hi ⊢
    exact (fault_any hR hS _ ts hf hl i _ (List.getElem?_eq_getElem hi) wx (HV.out.below h)).mono fun e w' ⟨h1, h2⟩ => ⟨h1, bel2 h h2⟩)
  have HD : Hid (∀ i, i < N → wr (ts.map It.p) i ≠ 0 → (∀ j, j < i → wr (ts.map It.p) j = 0) → Chk (ts.map It.p) (wr (ts.map It.p) i) (i : Int)) := hide (fun i hi hw hj => .inr ⟨i, by rw [List.length_map, ← hN]; exact hi, rfl, rfl, hw, hj⟩)
  have HZ : Hid ((∀ j, j < N → wr (ts.map It.p) j = 0) → Chk (ts.map It.p) 0 (-1)) := hide (fun h => .inl ⟨rfl, rfl, fun i hi => h i (by rw [List.length_map, ← hN] at hi; exact hi)⟩)
  rw [← hN] at hl ⊢
  clear hN HV hcap hf hR hS
  go_enter Try.func10, Try.ntmps10
  go_wp2_with fail
  go_loopg [8] N (fun g v8 wx => ∃ i : Nat, i + g = N ∧ v8 = .int .i64 (i : Int) ∧ Hid (Below w.heap.size w wx ∧ ∀ j, j < i → Pol8.wr (ts.map It.p) j = 0))
  case atStart => exact ⟨0, by omega, rfl, hide ⟨Below.refl _ _, fun j hj => by omega⟩⟩
  case round =>
    obtain ⟨i, hi, rfl, HU⟩ := hrel
    by_cases hlt : i < N
    · have C1 := hide (HC.out i hlt _ HU.out.1)
      have HD1 := hide (HD.out i hlt)
      have HU2 := hide HU.out.2
      generalize hE : Pol8.wr (ts.map It.p) i = E at C1 HD1
      have HE := hide hE
      clear hE HC HD HZ
      by_cases h0 : E = 0
      · subst h0
        go_wp2_with fail
        refine C1.out.mono ?_
        rintro e w2 ⟨rfl, h2⟩
        have H2 := hide h2
        clear h2 C1 HU HD1
        go_wp2_with fail
        go_roundg (N - i - 1)
        case measure => omega
        case rel => exact ⟨i + 1, by omega, by first | rfl | simp, hide ⟨H2.out, fun j hj => by
          by_cases e : j = i
          · rw [e]; exact HE.out
          · exact HU2.out j (by omega)⟩⟩
      · have hne : (E != 0) = true := by simpa using h0
        have HK := hide (HD1.out h0 HU2.out)
        clear h0 HD1 HE HU2
        go_wp2_with fail
        refine C1.out.mono ?_
        rintro e w2 ⟨rfl, h2⟩
        have H2 := hide h2
        clear h2 C1 HU
        go_wp2_with fail
        go_ret2
        exact ⟨⟨E, (i : Int), rfl, HK.out⟩, H2.out⟩
    · have HK := hide (HZ.out (fun j hj => HU.out.2 j (by omega)))
      have HB := hide HU.out.1
      clear HC HD HZ HU
      go_wp2_with fail
      go_ret2
      exact ⟨⟨0, -1, rfl, HK.out⟩, HB.out⟩
/-- What is asked of versoref09.Check. -/
def RCheckC : Prop := ∀ (v : Value) (ts : List It) (w : World), (∀ t ∈ ts, fits t.p) → ts.length ≤ 100000 → PolRow w v ts →
  Calls Try.prog 11 #[v] w fun e w' => (∃ E n, e = .returned (.tuple #[.int .i64 E, .int .i64 n]) ∧ Chk (ts.map It.p) E n) ∧ Below w.heap.size w w'
set_option maxRecDepth 100000 in
set_option maxHeartbeats 16000000 in
theorem rcheck_any : RCheckC := by
  intro v ts w hf hl hv
  have HV := hide hv
  obtain ⟨p, cap, rfl, hcap, -, -⟩ := hv
  obtain ⟨N, hN⟩ : ∃ N, N = ts.length := ⟨_, rfl⟩
  have HC : Hid (∀ i, i < N → ∀ wx, Below w.heap.size w wx → Calls Try.prog 20 #[.slice p N cap, .int .i64 (i : Int)] wx fun e w' => e = .returned (.int .i64 (wr (ts.map It.p) i)) ∧ Below w.heap.size w w') := hide (fun i hi wx h => by
    rw [hN] at hi ⊢
    exact (rwrong_any _ ts hf hl i _ (List.getElem?_eq_getElem hi) wx (HV.out.below h)).mono fun e w' ⟨h1, h2⟩ => ⟨h1, bel2 h h2⟩)
  have HD : Hid (∀ i, i < N → wr (ts.map It.p) i ≠ 0 → (∀ j, j < i → wr (ts.map It.p) j = 0) → Chk (ts.map It.p) (wr (ts.map It.p) i) (i : Int)) := hide (fun i hi hw hj => .inr ⟨i, by rw [List.length_map, ← hN]; exact hi, rfl, rfl, hw, hj⟩)
  have HZ : Hid ((∀ j, j < N → wr (ts.map It.p) j = 0) → Chk (ts.map It.p) 0 (-1)) := hide (fun h => .inl ⟨rfl, rfl, fun i hi => h i (by rw [List.length_map, ← hN] at hi; exact hi)⟩)
  rw [← hN] at hl ⊢
  clear hN HV hcap hf
  go_enter Try.func11, Try.ntmps11
  go_wp2_with fail
  go_loopg [4] N (fun g v4 wx => ∃ i : Nat, i + g = N ∧ v4 = .int .i64 (i : Int) ∧ Hid (Below w.heap.size w wx ∧ ∀ j, j < i → Pol8.wr (ts.map It.p) j = 0))
  case atStart => exact ⟨0, by omega, rfl, hide ⟨Below.refl _ _, fun j hj => by omega⟩⟩
  case round =>
    obtain ⟨i, hi, rfl, HU⟩ := hrel
    by_cases hlt : i < N
    · have C1 := hide (HC.out i hlt _ HU.out.1)
      have HD1 := hide (HD.out i hlt)
      have HU2 := hide HU.out.2
      generalize hE : Pol8.wr (ts.map It.p) i = E at C1 HD1
      have HE := hide hE
      clear hE HC HD HZ
      by_cases h0 : E = 0
      · subst h0
        go_wp2_with fail
        refine C1.out.mono ?_
        rintro e w2 ⟨rfl, h2⟩
        have H2 := hide h2
        clear h2 C1 HU HD1
        go_wp2_with fail
        go_roundg (N - i - 1)
        case measure => omega
        case rel => exact ⟨i + 1, by omega, by first | rfl | simp, hide ⟨H2.out, fun j hj => by
          by_cases e : j = i
          · rw [e]; exact HE.out
          · exact HU2.out j (by omega)⟩⟩
      · have hne : (E != 0) = true := by simpa using h0
        have HK := hide (HD1.out h0 HU2.out)
        clear h0 HD1 HE HU2
        go_wp2_with fail
        refine C1.out.mono ?_
        rintro e w2 ⟨rfl, h2⟩
        have H2 := hide h2
        clear h2 C1 HU
        go_wp2_with fail
        go_ret2
        exact ⟨⟨E, (i : Int), rfl, HK.out⟩, H2.out⟩
    · have HK := hide (HZ.out (fun j hj => HU.out.2 j (by omega)))
      have HB := hide HU.out.1
      clear HC HD HZ HU
      go_wp2_with fail
      go_ret2
      exact ⟨⟨0, -1, rfl, HK.out⟩, HB.out⟩

set_option maxRecDepth 100000 in
set_option maxHeartbeats 16000000 in
/-- The document's Light. -/
theorem rlightl_any (v : Value) (ts : List It) (w : World) (hv : PolRow w v ts) :
    Calls Try.prog 9 #[v] w fun e w' => (∃ b : Bool, e = .returned (.bool b) ∧ (b = true → ts.length ≤ 12 ∧ ∀ t ∈ ts, light t.p)) ∧ Below w.heap.size w w' := by
  have HV := hide hv
  obtain ⟨p, cap, rfl, hcap, -, -⟩ := hv
  obtain ⟨N, hN⟩ : ∃ N, N = ts.length := ⟨_, rfl⟩
  have HC : Hid (∀ i, i < N → ∀ wx, Below w.heap.size w wx → ∃ (t : It) (b off : Nat), ts[i]? = some t ∧ p = some ⟨b, off, none⟩ ∧ wx.rangeAt b (off + i * 9) t.cells ∧ Calls Try.prog 17 #[t.val] wx fun e w' => (∃ b : Bool, e = .returned (.bool b) ∧ (b = true → light t.p)) ∧ Below w.heap.size w w') := hide (fun i hi wx h => by
    rw [hN] at hi
    have ht := List.getElem?_eq_getElem hi
    obtain ⟨b, off, cp, e, -, hr, hk⟩ := (HV.out.below h).at ht
    injection e with e
    exact ⟨ts[i], b, off, ht, e, hr _ _ ht, (rlight_any _ _ _ _ _ _ _ _ _ _ _ wx (hk _ _ ht)).mono fun e w' ⟨h1, h2⟩ => ⟨h1, bel2 h h2⟩⟩)
  have HN := hide hN
  rw [← hN]
  clear hN HV hcap
  by_cases h12 : 12 < N
  · clear HC
    go_enter Try.func9, Try.ntmps9
    go_wp2_with fail
    go_ret
    exact ⟨⟨false, rfl, fun h => by cases h⟩, Below.refl _ _⟩
  · have hN12 : N ≤ 12 := by omega
    clear h12
    go_enter Try.func9, Try.ntmps9
    go_wp2_with fail
    go_loopg [3] N (fun g v3 wx => ∃ i : Nat, i + g = N ∧ v3 = .int .i64 (i : Int) ∧ Hid (Below w.heap.size w wx ∧ ∀ (j : Nat) (t : It), j < i → ts[j]? = some t → light t.p))
    case atStart => exact ⟨0, by omega, rfl, hide ⟨Below.refl _ _, fun j t hj => by omega⟩⟩
    case round =>
      obtain ⟨i, hi, rfl, HU⟩ := hrel
      by_cases hlt : i < N
      · obtain ⟨t, b, off, ht, rfl, hr, hc⟩ := HC.out i hlt _ HU.out.1
        have C1 := hide hc
        have HT := hide ht
        have HU2 := hide HU.out.2
        obtain ⟨y0, y1, y2, y3, y4, y5, y6, y7, y8⟩ := nine hr
        clear hc ht HC HU hr
        obtain ⟨P, v1, v2, v3, v4, v5, l1, l2, l3, l4, l5⟩ := t
        simp only [] at y0 y1 y2 y3 y4 y5 y6 y7 y8
        go_wp2_with fail
        refine C1.out.mono ?_
        rintro e w2 ⟨⟨r, rfl, hr⟩, h2⟩
        have H2 := hide h2
        have HR := hide hr
        clear h2 C1 hr y0 y1 y2 y3 y4 y5 y6 y7 y8
        cases r with
        | false =>
          go_wp2_with fail
          go_ret
          exact ⟨⟨false, rfl, fun h => by cases h⟩, H2.out⟩
        | true =>
          have HR1 := hide (HR.out rfl)
          clear HR
          go_wp2_with fail
          go_roundg (N - i - 1)
          case measure => omega
          case rel => exact ⟨i + 1, by omega, by first | rfl | simp, hide ⟨H2.out, fun j t hj hjt => by
            by_cases e : j = i
            · subst e
              rw [HT.out] at hjt
              cases hjt
              exact HR1.out
            · exact HU2.out j t (by omega) hjt⟩⟩
      · have HK : Hid (∀ t ∈ ts, light t.p) := hide (fun t ht => by
          obtain ⟨j, hj⟩ := List.getElem?_of_mem ht
          have hl := (List.getElem?_eq_some_iff.1 hj).1
          exact HU.out.2 j t (by have := HN.out; omega) hj)
        have HB := hide HU.out.1
        clear HC HU
        go_wp2_with fail
        go_ret
        exact ⟨⟨true, rfl, fun _ => ⟨hN12, HK.out⟩⟩, HB.out⟩
end Go.Proofs.Ytlabdbkmlkmnkaa
