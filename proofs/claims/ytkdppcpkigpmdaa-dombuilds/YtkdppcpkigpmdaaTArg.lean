/-
  Tokens that came in: what the laws' functions and Build do with them.
-/
import Derived.Test.YtkdppcpkigpmdaaH2
import Derived.Test.YtkdppcpkigpmdaaOTok
namespace Go.Proofs.Ytkdppcpkigpmdaa
open Go.RowKit
open Utf1

/-- Tokens that came in. -/
def TokArg (w : World) (v : Value) (l : List Te) : Prop := TokRow w v l ∧ l.length ≤ maxLen ∧ ∀ e ∈ l, AttrRow w e.2.1.1 e.2.1.2.1 e.1.attrs ∧ e.1.name.length ≤ maxLen ∧ e.1.text.length ≤ maxLen ∧ e.2.1.2.1 ≤ maxLen
theorem AttrRow.below {w w' : World} {p : Option Addr} {m : Nat} {at' : List (List UInt8 × List UInt8)} (h : AttrRow w p m at') (hb : Below w.heap.size w w') : AttrRow w' p m at' := by
  refine ⟨h.1, ?_⟩
  intro i kv hi
  obtain ⟨b, off, hp, x0, x1, h2⟩ := h.2 i kv hi
  exact ⟨b, off, hp, cell_keep x0 hb, cell_keep x1 hb, h2⟩
theorem TokArg.below {w w' : World} {v : Value} {l : List Te} (h : TokArg w v l) (hb : Below w.heap.size w w') : TokArg w' v l :=
  ⟨tokrow_below h.1 hb, h.2.1, fun e he => ⟨(h.2.2 e he).1.below hb, (h.2.2 e he).2⟩⟩
theorem light_arg {w : World} {v : Value} {l : List Te} (h : TokArg w v l) : Calls Try.prog 9 #[v] w fun e w' => e = .returned (.bool (decide (tokWs l < 6000))) ∧ Below w.heap.size w w' := light_st w v l h.1 (fun e he => (h.2.2 e he).2) h.2.1
theorem named_arg {w : World} {v : Value} {l : List Te} (h : TokArg w v l) : Calls Try.prog 10 #[v] w fun e w' => ∃ b : Bool, e = .returned (.bool b) ∧ (b = true → ∀ e ∈ l, e.1.kind = 2 → e.1.name ≠ []) ∧ w' = w := named_st w v l h.1 h.2.1
theorem build_arg {w : World} {v : Value} {l : List Te} (h : TokArg w v l) (hw : tokWs l < 6000) : Calls Try.prog 11 #[v] w fun e w' => ∃ r, e = .returned (.tuple #[r, .int .i64 (if (buildB (l.map Prod.fst)).isSome then 0 else 5)]) ∧ (∃ fp, KAt w' w.heap.size r ((buildB (l.map Prod.fst)).getD []) fp) ∧ Below w.heap.size w w' := by
  obtain ⟨f1, f2, f3⟩ := light_facts l hw
  refine (build_st w v l h.1 (by omega) (by omega) (fun e he => by have := (f3 e he).1; omega) ?_).mono ?_
  · intro e he
    exact clones_any w _ _ _ _ (h.2.2 e he).1 (by have := (f3 e he).2; omega)
  · rintro e w' ⟨r, err, rfl, hE, hb⟩
    obtain ⟨fp, hk, rfl⟩ := hE.got
    exact ⟨r, rfl, ⟨fp, hk⟩, hb⟩
end Go.Proofs.Ytkdppcpkigpmdaa
