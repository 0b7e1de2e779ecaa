/-
  Slices of strings, and an array of two numbers, among the arguments; the laws' walks with the arguments in the rows' order.
-/
import Derived.Test.YtipebinjdicnfaaLLong
import Derived.Test.YtipebinjdicnfaaLMany
import Derived.Test.YtipebinjdicnfaaLBytes
import Derived.Test.YtipebinjdicnfaaLLasts
import Derived.SliceStrings
import Derived.OpenShut
import Derived.ProofKit
import Derived.ShutString
namespace Go.Proofs.Ytipebinjdicnfaa
open Go.ChangeShapes Go.WideShapes Go.ChangeAt Go.RowKit

theorem cellsStr : Try.prog.cellsOf 9 = 1 := by kernel_rfl
theorem open_strs {H : Type} {enc : TypeId × Value → H} {W : World} {a : Option Addr} {len cap : Nat} {d : DataW H} {p : List MemPlace} (h : DataW.Trod enc Try.prog W 0 (fun _ => true) true 29 (.slice a len cap) d p) : ∃ ss, StrArg W (.slice a len cap) ss := by
  obtain ⟨fuel, hf⟩ := h
  rcases open_strings Try.underlying29 Try.underlying9 cellsStr hf with ⟨hcs, _⟩ | ⟨x, l, c, ss, hcs, _, hl, hm, hz, _, hcell, hsz⟩
  · simp [Value.cells] at hcs
    obtain ⟨rfl, rfl, rfl⟩ := hcs
    exact ⟨[], none, 0, rfl, fun _ => rfl, fun i s h => by simp at h⟩
  · simp [Value.cells] at hcs
    obtain ⟨rfl, rfl, rfl⟩ := hcs
    have hz : ss.length = cap := by simpa using hz
    refine ⟨ss.take len, some x, cap, ?_, fun h => (by cases h), ?_⟩
    · rw [List.length_take, Nat.min_eq_left (by omega)]
    · intro i s hi
      have hil : i < ss.length := by
        have := (List.getElem?_eq_some_iff.1 hi).1
        rw [List.length_take] at this
        omega
      have hilen : i < len := by
        have := (List.getElem?_eq_some_iff.1 hi).1
        rw [List.length_take] at this
        omega
      rw [List.getElem?_take, if_pos hilen] at hi
      have hc := hcell i hil
      have hg : ss.getD i ByteArray.empty = s := by rw [List.getD_eq_getElem?_getD, hi]; rfl
      rw [hg] at hc
      obtain ⟨b, off, spot⟩ := x
      have hspot : spot = none := by simpa [Addr.add] using World.cell?_spot (hcell 0 (by omega))
      subst hspot
      exact ⟨b, off, rfl, by rw [← add_at]; exact hc⟩
section
variable {H : Type} {enc : TypeId × Value → H} {P : Program} {w : World} {base : Nat} {spare : Nat → Bool} {held : Bool}

theorem ipair_trod {t e : TypeId} {fuel : Nat} {c0 c1 : Value} {x : DataW H × List MemPlace} (ht : P.underlying t = some (.array 2 e)) (hce : P.cellsOf e = 1)
    (h : DataW.trod enc P w base spare held fuel t [c0, c1] = some x) :
    ∃ y0 y1 n, x = (.agg [y0.1, y1.1], y0.2 ++ y1.2) ∧ DataW.trod enc P w base spare held n e [c0] = some y0 ∧ DataW.trod enc P w base spare held n e [c1] = some y1 := by
  cases fuel with
  | zero => simp [DataW.trod] at h
  | succ n =>
    unfold DataW.trod at h
    rw [ht] at h
    have r2 : List.range 2 = [0, 1] := rfl
    simp [r2, hce] at h
    obtain ⟨_, h⟩ := h
    cases h0 : DataW.trod enc P w base spare held n e [c0] with
    | none => simp [h0] at h
    | some y0 =>
      cases h1 : DataW.trod enc P w base spare held n e [c1] with
      | none => simp [h0, h1] at h
      | some y1 =>
        simp [h0, h1] at h
        exact ⟨y0, y1, n, h.symm, h0, h1⟩
theorem open_ipair {r : Reach} {b0 : Nat} {t e : TypeId} {k : IntKind} {v : Value} {d : DataW H} {ps : List MemPlace} (ht : P.underlying t = some (.array 2 e)) (he : P.underlying e = some (.int k)) (hce : P.cellsOf e = 1) (hct : P.cellsOf t = 2)
    (hval : Value.okWide P w r b0 t v) (hd : DataW.Trod enc P w base spare held t v d ps) :
    ∃ s0 s1 : Int, v = .agg #[.int k s0, .int k s1] ∧ d = .agg [.lit (.int k s0), .lit (.int k s1)] ∧ ps = [] ∧ (Lit.int k s0).wf = true ∧ (Lit.int k s1).wf = true := by
  simp only [Value.okWide, ht] at hval
  obtain ⟨cs, rfl, hsz, _⟩ := hval
  rw [hct] at hsz
  obtain ⟨c0, c1, rfl⟩ : ∃ c0 c1, cs = #[c0, c1] := by
    obtain ⟨l⟩ := cs
    match l, hsz with
    | [c0, c1], _ => exact ⟨c0, c1, rfl⟩
  obtain ⟨fuel, hf⟩ := hd
  obtain ⟨y0, y1, n, hx, h0, h1⟩ := ipair_trod ht hce (show DataW.trod enc P w base spare held fuel t [c0, c1] = _ from hf)
  obtain ⟨s0, e0, x0, k0⟩ := DataW.trod_int he h0
  obtain ⟨s1, e1, x1, k1⟩ := DataW.trod_int he h1
  subst x0 x1
  simp only [List.cons.injEq, and_true] at e0 e1
  subst e0 e1
  simp only [Prod.mk.injEq] at hx
  exact ⟨s0, s1, rfl, hx.1, by simpa using hx.2, k0, k1⟩
theorem shut_ipair {t e : TypeId} {k : IntKind} {s0 s1 : Int} (ht : P.underlying t = some (.array 2 e)) (he : P.underlying e = some (.int k)) (hce : P.cellsOf e = 1) (hct : P.cellsOf t = 2) (h0 : (Lit.int k s0).wf = true) (h1 : (Lit.int k s1).wf = true) :
    DataW.Trod enc P w base spare held t (.agg #[.int k s0, .int k s1]) (.agg [.lit (.int k s0), .lit (.int k s1)]) [] := by
  refine ⟨2, ?_⟩
  have kk : ∀ s : Int, (Lit.int k s).wf = true → DataW.trod enc P w base spare held 1 e [.int k s] = some (.lit (.int k s), []) := by
    intro s hs
    simp [DataW.trod, he, hs]
  have r2 : List.range 2 = [0, 1] := rfl
  unfold DataW.trod
  rw [ht]
  simp [Value.cells, r2, hce, hct, kk s0 h0, kk s1 h1]
end
theorem again_go (pb : Option Addr) (nb cb : Nat) (b : List UInt8) (t : ByteArray) (w : World) (hb : IsBytes w (.slice pb nb cb) b) (_ht : t.size ≤ maxLen) :
    Calls Try.prog 6 #[.slice pb nb cb, .string t] w fun e w' => e = .returned (.bool true) ∧ Below w.heap.size w w' := again_walk pb nb cb b t w hb
theorem lasts_go (p : Option Addr) (N cap : Nat) (ts : List ByteArray) (t : ByteArray) (x0 x1 : Int) (w : World) (h : StrArg w (.slice p N cap) ts) (_ht : t.size ≤ maxLen) (hx0 : (Lit.int .i64 x0).wf = true) (hx1 : (Lit.int .i64 x1).wf = true) :
    Calls Try.prog 5 #[.slice p N cap, .string t, .agg #[.int .i64 x0, .int .i64 x1]] w fun e w' => e = .returned (.bool true) ∧ Below w.heap.size w w' := lasts_walk p N cap ts t x0 x1 w h hx0 hx1
end Go.Proofs.Ytipebinjdicnfaa
