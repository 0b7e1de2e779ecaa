/-
  ser.mayBeAttrs, and what stands within an element.
-/
import Derived.Test.YtbcadeikdmlpoaaDoorN4
import Derived.Test.YtbcadeikdmlpoaaDoorG2
namespace Utf1
theorem mayA_nil : mayA [] = true := by decide
theorem mayA_false {a d : List (List UInt8 × List UInt8)} {kv : List UInt8 × List UInt8} {r : List (List UInt8 × List UInt8)} (ha : a = d ++ kv :: r) (h : kv.1 ∈ d.map Prod.fst ∨ isNmL [45, 95, 58] kv.1 = false) : mayA a = false := by
  unfold mayA
  rcases h with h | h
  · rw [decide_eq_false, Bool.and_false]
    rw [ha, List.map_append, List.map_cons]
    intro hn
    exact (List.nodup_append.1 hn).2.2 _ h _ (List.mem_cons_self ..) rfl
  · have : a.all (fun kv => isNmL [45, 95, 58] kv.1) = false := by
      rw [List.all_eq_false]
      exact ⟨kv, by rw [ha]; simp, by rw [h]; decide⟩
    rw [this, Bool.false_and]
theorem mayA_more {d : List (List UInt8 × List UInt8)} {kv : List UInt8 × List UInt8} (hd : mayA d = true) (h1 : kv.1 ∉ d.map Prod.fst) (h2 : isNmL [45, 95, 58] kv.1 = true) : mayA (d ++ [kv]) = true := by
  unfold mayA at *
  rw [Bool.and_eq_true] at hd ⊢
  obtain ⟨a1, a2⟩ := hd
  refine ⟨?_, ?_⟩
  · rw [List.all_append, a1]
    simp [h2]
  · rw [List.map_append]
    refine decide_eq_true ?_
    rw [List.nodup_append]
    refine ⟨of_decide_eq_true a2, by simp, ?_⟩
    intro x hx y hy
    have : y = kv.1 := by simpa using hy
    subst this
    intro e
    subst e
    exact h1 hx
end Utf1
namespace Go.Proofs.YtbcadeikdmlpoaaDoor.Dm
open Go.RowKit
open Utf1

theorem grown_cell {w w' : World} {b : Nat} {a : Addr} {v : Value} (h : w.cell? a = some v) (hg : w.grownBy w' (some b)) (hne : a.block ≠ b) : w'.cell? a = some v := by
  have hl := cell_lt h
  unfold World.cell? at h ⊢
  rw [hg.block _ hl (by intro e; injection e with e; exact hne e)]
  exact h

set_option maxRecDepth 100000 in
set_option maxHeartbeats 8000000 in
theorem mayBeAttrs_any (ap : Option Addr) (am ac : Nat) (ats : List (List UInt8 × List UInt8)) (w : World) (ha : ARow w ap am ats) : Calls Tryd.prog 132 #[.slice ap am ac] w fun e w' => e = .returned (.bool (mayA ats)) ∧ Below w.heap.size w w' := by
  have hmm := @run_makeMap Tryd.prog
  have HA := hide ha
  have HAM := hide ha.1.1
  have ham := ha.1.2
  clear ha
  go_enter Tryd.func132, Tryd.ntmps132
  go_wp2_with fail
  go_loopg [9] am (fun k v9 wr => ∃ (j : Nat) (d r : List (List UInt8 × List UInt8)), r.length = k ∧ d.length = j ∧ j + k = am ∧ v9 = .int .i64 (j : Int) ∧ Hid (ats = d ++ r) ∧ Hid (mayA d = true) ∧ Hid (MetSt wr w.heap.size j (d.map Prod.fst)) ∧ Hid (Below w.heap.size w wr))
  case atStart => exact ⟨0, [], ats, HAM.out.symm, rfl, by omega, rfl, hide rfl, hide mayA_nil, hide (met_new w), hide ((Below.refl _ _).alloc (Nat.le_refl _) _)⟩
  case round =>
    obtain ⟨j, d, r, rfl, hdj, hjk, rfl, HD, HM, HS, HB⟩ := hrel
    clear hmm
    match r, hjk, HD with
    | [], hjk, HD =>
      have e1 : d = ats := by
        have := HD.out
        rw [List.append_nil] at this
        exact this.symm
      simp only [List.length_nil, Nat.add_zero] at hjk
      subst hjk
      subst e1
      clear HD hdj
      go_wp2_with fail
      go_ret
      exact ⟨ret_bool HM.out.symm, HB.out⟩
    | kv :: r, hjk, HD =>
      have hjN : j < am := by simp only [List.length_cons] at hjk; omega
      have hge : ats[j]? = some kv := by
        rw [HD.out, List.getElem?_append_right (by omega), hdj, Nat.sub_self]
        rfl
      obtain ⟨b, off, rfl, x0, x1, hk1, hk2⟩ := HA.out.2 j kv hge
      have x0 := cell_keep x0 HB.out
      have x1 := cell_keep x1 HB.out
      obtain ⟨XA, hXA⟩ : ∃ X : ByteArray, X = ⟨kv.1.toArray⟩ := ⟨_, rfl⟩
      obtain ⟨XV, hXV⟩ : ∃ X : ByteArray, X = ⟨kv.2.toArray⟩ := ⟨_, rfl⟩
      rw [← hXA] at x0
      rw [← hXV] at x1
      have hA1 : bl XA = kv.1 := by rw [hXA]
      have hAl : XA.size = kv.1.length := by rw [hXA]; rfl
      obtain ⟨w2, hw2⟩ : ∃ w2, w2 = wr.alloc (.cells #[.string XA, .string XV] 26) := ⟨_, rfl⟩
      have hb2 : Below wr.heap.size wr w2 := by rw [hw2]; exact (Below.refl _ _).alloc (Nat.le_refl _) _
      have z0 : w2.cell? ⟨wr.heap.size, 0, none⟩ = some (.string XA) := by rw [hw2, new_cell]; rfl
      have hsz := HB.out.size
      have hmlt : w.heap.size < wr.heap.size := by
        obtain ⟨D, h4, _⟩ := HS.out
        exact h4.lt
      obtain ⟨c, w3, hc, hcz, hlk, hup, hlk2, hmet, hb3, hgr⟩ := met_step (w0 := w) (HS.out.below hb2) (by omega) XA (by omega) (bel2 HB.out hb2) (Nat.le_refl _)
      have z1 := grown_cell z0 hgr (by show wr.heap.size ≠ w.heap.size; omega)
      have HNM := hide (fun w => isName_any XA ⟨#[45, 95, 58]⟩ w (by omega))
      have HNQ : Hid (isNmL (bl ⟨#[45, 95, 58]⟩) (bl XA) = isNmL [45, 95, 58] kv.1) := hide (by rw [hA1])
      rw [HNQ.out] at HNM
      have HB3 := hide hb3
      have HMET := hide hmet
      have HCZ := hide hcz
      have HXA := hide hA1
      have HD2 : Hid (ats = (d ++ [kv]) ++ r) := hide (by rw [HD.out]; simp)
      have hjk2 : j + (r.length + 1) = am := hjk
      have hdj2 : (d ++ [kv]).length = j + 1 := by simp [hdj]
      have HF : Hid (kv.1 ∈ d.map Prod.fst ∨ isNmL [45, 95, 58] kv.1 = false → mayA ats = false) := hide (fun h => mayA_false HD.out h)
      clear hge hk1 hk2 hXA hXV hb2 hAl hb3 hmet hcz hA1 HNQ HD hgr hjk hdj HS
      go_upto_region 5 with fail
      rw [← hw2]
      clear hw2 x0 x1
      by_cases hin : kv.1 ∈ d.map Prod.fst
      · have hc1 : c = 1 := by
          rcases hc with h | h
          · have := HCZ.out.1 h
            rw [HXA.out] at this
            exact absurd hin this
          · exact h
        subst hc1
        rw [show (1 : Int) + 1 = 2 from rfl] at hup hlk2
        have HR := hide (HF.out (.inl hin))
        clear HF hin HMET HCZ hc HXA
        go_wp2_with fail
        try rw [Exit.noGoto_ret]
        go_ret
        exact ⟨ret_bool HR.out.symm, HB3.out⟩
      · have hc0 : c = 0 := HCZ.out.2 (by rw [HXA.out]; exact hin)
        subst hc0
        rw [show (0 : Int) + 1 = 1 from rfl] at hup hlk2
        cases hnm : isNmL [45, 95, 58] kv.1 with
        | false =>
          rw [hnm] at HNM
          have HR := hide (HF.out (.inr hnm))
          clear HF hin HMET HCZ hc HXA hnm
          go_wp2_with fail
          refine (HNM.out _).mono ?_
          rintro e w4 ⟨rfl, rfl⟩
          go_wp2_with fail
          try rw [Exit.noGoto_ret]
          go_ret
          exact ⟨ret_bool HR.out.symm, HB3.out⟩
        | true =>
          rw [hnm] at HNM
          have HM2 := hide (mayA_more HM.out hin hnm)
          have HS2 : Hid (MetSt w3 w.heap.size (j + 1) ((d ++ [kv]).map Prod.fst)) := hide (by
            rw [List.map_append]
            have := HMET.out (by rw [HXA.out]; exact hin)
            rw [HXA.out] at this
            exact this)
          clear HF hin HMET HCZ hc HXA hnm HM
          go_wp2_with fail
          refine (HNM.out _).mono ?_
          rintro e w4 ⟨rfl, rfl⟩
          go_wp2_with fail
          go_roundg r.length
          case measure => simp only [List.length_cons]; omega
          case rel => exact ⟨j + 1, d ++ [kv], r, rfl, hdj2, by omega, by first | rfl | simp, HD2, HM2, HS2, HB3⟩
end Go.Proofs.YtbcadeikdmlpoaaDoor.Dm
