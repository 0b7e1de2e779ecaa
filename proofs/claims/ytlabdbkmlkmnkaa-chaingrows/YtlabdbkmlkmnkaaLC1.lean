/-
  The law ChainChecks.
-/
import Derived.Test.YtlabdbkmlkmnkaaCW
namespace Go.Proofs.Ytlabdbkmlkmnkaa
open Go.RowKit
open Utf1 Pol8

theorem light_all {ts : List It} (h : ∀ t ∈ ts, light t.p) : ∀ t ∈ ts, fits t.p := fun t ht => light_fits (h t ht)
set_option maxRecDepth 100000 in
set_option maxHeartbeats 8000000 in
theorem lawChecks_walk (hC : CheckC) (hA : AddC) (v : Value) (ts : List It) (w : World) (hv : PolRow w v ts) :
    Calls Try.prog 3 #[v] w fun e w' => e = .returned (.bool true) ∧ Below w.heap.size w w' := by
  have HV := hide hv
  have CW := hide (awake_any hC hA w)
  have CL : Hid (∀ wx, Below w.heap.size w wx → Calls Try.prog 9 #[v] wx fun e w' => (∃ b : Bool, e = .returned (.bool b) ∧ (b = true → ts.length ≤ 12 ∧ ∀ t ∈ ts, light t.p)) ∧ Below w.heap.size w w') := hide (fun wx h => (rlightl_any v ts wx (HV.out.below h)).mono fun e w' ⟨h1, h2⟩ => ⟨h1, bel2 h h2⟩)
  have CK : Hid (ts.length ≤ 12 → (∀ t ∈ ts, light t.p) → ∀ wx, Below w.heap.size w wx → Calls Try.prog 10 #[v] wx fun e w' => (∃ E n, e = .returned (.tuple #[.int .i64 E, .int .i64 n]) ∧ Chk (ts.map It.p) E n) ∧ Below w.heap.size w w') := hide (fun h1 h2 wx h => (hC v ts wx (light_all h2) (by omega) (HV.out.below h)).mono fun e w' ⟨h1, h2⟩ => ⟨h1, bel2 h h2⟩)
  have CD : Hid (ts.length ≤ 12 → (∀ t ∈ ts, light t.p) → ∀ wx, Below w.heap.size w wx → Calls Try.prog 11 #[v] wx fun e w' => (∃ E n, e = .returned (.tuple #[.int .i64 E, .int .i64 n]) ∧ Chk (ts.map It.p) E n) ∧ Below w.heap.size w w') := hide (fun h1 h2 wx h => (rcheck_any v ts wx (light_all h2) (by omega) (HV.out.below h)).mono fun e w' ⟨h1, h2⟩ => ⟨h1, bel2 h h2⟩)
  obtain ⟨p, cap, rfl, -, -, -⟩ := hv
  generalize ts.length = N at CL CK CD
  clear HV hC hA
  go_enter Try.func3, Try.ntmps3
  go_wp2_with fail
  refine CW.out.mono ?_
  rintro e w1 ⟨rfl, h1⟩
  have H1 := hide h1
  clear h1 CW
  go_wp2_with fail
  refine (CL.out _ H1.out).mono ?_
  rintro e w2 ⟨⟨b, rfl, hb⟩, h2⟩
  have H2 := hide h2
  have HB := hide hb
  clear h2 hb CL H1
  cases b with
  | false =>
    go_wp2_with fail
    go_ret
    exact ⟨rfl, H2.out⟩
  | true =>
    have K1 := hide (CK.out (HB.out rfl).1 (HB.out rfl).2)
    have K2 := hide (CD.out (HB.out rfl).1 (HB.out rfl).2)
    clear CK CD HB
    go_wp2_with fail
    refine (K1.out _ H2.out).mono ?_
    rintro e w3 ⟨⟨E, n, rfl, hc⟩, h3⟩
    have H3 := hide h3
    have HE := hide hc
    clear h3 hc K1 H2
    go_wp2_with fail
    refine (K2.out _ H3.out).mono ?_
    rintro e w4 ⟨⟨F, m, rfl, hc⟩, h4⟩
    have H4 := hide h4
    obtain ⟨e1, e2⟩ := chk_unique hc HE.out
    subst e1 e2
    have q1 : (F == F) = true := by simp
    have q2 : (m == m) = true := by simp
    clear h4 hc HE K2 H3
    go_wp2_with fail
    go_ret
    exact ⟨rfl, H4.out⟩
end Go.Proofs.Ytlabdbkmlkmnkaa
