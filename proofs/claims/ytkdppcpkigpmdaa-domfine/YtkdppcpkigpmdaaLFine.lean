/-
  The law DomFine, walked: it answers true at every tokens.
-/
import Derived.Test.YtkdppcpkigpmdaaG33
import Derived.Test.YtkdppcpkigpmdaaOTok
namespace Go.Proofs.Ytkdppcpkigpmdaa
open Go.RowKit
open Utf1

/-- Tokens that came in. -/
def TokArg (w : World) (v : Value) (l : List Te) : Prop := TokRow w v l ∧ l.length ≤ maxLen ∧ ∀ e ∈ l, AttrRow w e.2.1.1 e.2.1.2.1 e.1.attrs ∧ e.1.name.length ≤ maxLen ∧ e.1.text.length ≤ maxLen ∧ e.2.1.2.1 ≤ maxLen
theorem AttrRow.below {w w' : World} {p : Option Addr} {m : Nat} {at' : List (List UInt8 × List UInt8)} (h : AttrRow w p m at') (hb : Below w.heap.size w w') : AttrRow w' p m at' := by
  refine ⟨h.1, ?_⟩
  intro i kv hi
  obtain ⟨b, off, hp, x0, x1, h2⟩ := h.2 i kv hi
  exact ⟨b, off, hp, cell_keep x0 hb, cell_keep x1 hb, h2⟩
theorem TokArg.below {w w' : World} {v : Value} {l : List Te} (h : TokArg w v l) (hb : Below w.heap.size w w') : TokArg w' v l :=
  ⟨tokrow_below h.1 hb, h.2.1, fun e he => ⟨(h.2.2 e he).1.below hb, (h.2.2 e he).2⟩⟩
theorem light_arg {w : World} {v : Value} {l : List Te} (h : TokArg w v l) : Calls Try.prog 9 #[v] w fun e w' => e = .returned (.bool (decide (tokWs l < 6000))) ∧ Below w.heap.size w w' := light_st w v l h.1 (fun e he => (h.2.2 e he).2) h.2.1
theorem named_arg {w : World} {v : Value} {l : List Te} (h : TokArg w v l) : Calls Try.prog 10 #[v] w fun e w' => ∃ b : Bool, e = .returned (.bool b) ∧ (b = true → ∀ e ∈ l, e.1.kind = 2 → e.1.name ≠ []) ∧ w' = w := named_st w v l h.1 h.2.1
theorem build_arg {w : World} {v : Value} {l : List Te} (h : TokArg w v l) (hw : tokWs l < 6000) : Calls Try.prog 11 #[v] w fun e w' => ∃ r, e = .returned (.tuple #[r, .int .i64 (if (buildB (l.map Prod.fst)).isSome then 0 else 5)]) ∧ (∃ fp, KAt w' w.heap.size r ((buildB (l.map Prod.fst)).getD []) fp) ∧ Below w.heap.size w w' := by
  obtain ⟨f1, f2, f3⟩ := light_facts l hw
  refine (build_st w v l h.1 (by omega) (by omega) (fun e he => by have := (f3 e he).1; omega) ?_).mono ?_
  · intro e he
    exact clones_any w _ _ _ _ (h.2.2 e he).1 (by have := (f3 e he).2; omega)
  · rintro e w' ⟨r, err, rfl, hE, hb⟩
    obtain ⟨fp, hk, rfl⟩ := hE.got
    exact ⟨r, rfl, ⟨fp, hk⟩, hb⟩

set_option maxRecDepth 100000 in
set_option maxHeartbeats 8000000 in
theorem lawFine_walk (v : Value) (l : List Te) (w : World) (hl : TokArg w v l) :
    Calls Try.prog 5 #[v] w fun e w' => e = .returned (.bool true) ∧ Below w.heap.size w w' := by
  obtain ⟨p, c, rfl, -⟩ := id hl.1
  have HL := hide hl
  obtain ⟨N, hN⟩ : ∃ N, N = l.length := ⟨_, rfl⟩
  rw [← hN] at HL ⊢
  clear hl hN
  go_enter Try.func5, Try.ntmps5
  go_wp2_with fail
  refine (awake_st _).mono ?_
  rintro e w1 ⟨rfl, hb1⟩
  have HL1 := hide (HL.out.below hb1)
  have HB1 := hide hb1
  clear hb1 HL
  go_wp2_with fail
  refine (light_arg HL1.out).mono ?_
  rintro e w2 ⟨rfl, hb2⟩
  have HL2 := hide (HL1.out.below hb2)
  have HB2 := hide (HB1.out.trans (hb2.mono HB1.out.size))
  clear hb2 HL1 HB1
  by_cases hw : tokWs l < 6000
  case neg =>
    rw [decide_eq_false hw]
    go_wp2_with fail
    go_ret
    exact ⟨rfl, HB2.out⟩
  rw [decide_eq_true hw]
  go_wp2_with fail
  refine (named_arg HL2.out).mono ?_
  rintro e w3 ⟨b, rfl, -, rfl⟩
  cases b with
  | false =>
    go_wp2_with fail
    go_ret
    exact ⟨rfl, HB2.out⟩
  | true =>
    have HBU := hide (build_arg HL2.out hw)
    have hcn := build_cnt' (l.map Prod.fst)
    have hfd : FineL blocks voids ((buildB (l.map Prod.fst)).getD []) false false false ∧ deepL ((buildB (l.map Prod.fst)).getD []) ≤ 65 := by
      cases hb : buildB (l.map Prod.fst) with
      | none => exact ⟨by show FineL blocks voids [] false false false; rw [FineL]; trivial, by show deepL [] ≤ 65; rw [deepL]; omega⟩
      | some ns => exact build_fine hb
    have hem : (buildB (l.map Prod.fst)).isSome = true ∨ ((buildB (l.map Prod.fst)).isSome = false ∧ (buildB (l.map Prod.fst)).getD [] = []) := by
      cases hb : buildB (l.map Prod.fst) with
      | none => exact .inr ⟨rfl, rfl⟩
      | some ns => exact .inl rfl
    obtain ⟨ns, hns⟩ : ∃ ns, ns = (buildB (l.map Prod.fst)).getD [] := ⟨_, rfl⟩
    obtain ⟨E, hE⟩ : ∃ E : Int, E = if (buildB (l.map Prod.fst)).isSome then 0 else 5 := ⟨_, rfl⟩
    rw [← hns] at hcn hfd hem HBU
    rw [← hE] at HBU
    have hEE : E = 0 ∨ (E = 5 ∧ ns.length = 0) := by
      rcases hem with h | ⟨h, h2⟩
      · left
        rw [hE, h]
        rfl
      · right
        exact ⟨by rw [hE, h]; rfl, by rw [h2]; rfl⟩
    have HBU : Hid (Calls Try.prog 11 #[.slice p N c] w3 fun e w' => ∃ p2 m2 c2, e = .returned (.tuple #[.slice p2 m2 c2, .int .i64 E]) ∧ m2 = ns.length ∧ (∃ fp, KAt w' w3.heap.size (.slice p2 m2 c2) ns fp) ∧ Below w3.heap.size w3 w') := hide (by
      refine HBU.out.mono ?_
      rintro e w' ⟨r, rfl, ⟨fp, hk⟩, hb⟩
      obtain ⟨p2, c2, rfl, -⟩ := kat_node hk
      exact ⟨_, _, _, rfl, rfl, ⟨fp, hk⟩, hb⟩)
    have HFI := hide hfd.1
    have hdp := hfd.2
    have HCN := hide hcn
    have HDP := hide hdp
    have HEE := hide hEE
    obtain ⟨n, hn⟩ : ∃ n, n = cntL ns := ⟨_, rfl⟩
    obtain ⟨d, hd⟩ : ∃ d, d = deepL ns := ⟨_, rfl⟩
    have qn : decide ((n : Int) ≤ 2000) = true := decide_eq_true (by omega)
    have qd : decide ((d : Int) ≤ 65) = true := decide_eq_true (by omega)
    have HND := hide (And.intro hn hd)
    clear hn hd hcn hdp hfd hem hns hE hEE HL2 hw
    go_wp2_with fail
    refine HBU.out.mono ?_
    rintro e w4 ⟨p2, m2, c2, rfl, hm2, ⟨fp, hk⟩, hb4⟩
    have HM2 := hide hm2
    have HS : Hid (Calls Try.prog 18 #[.slice p2 m2 c2] w4 fun e w' => e = .returned (.tuple #[.int .i64 (n : Int), .int .i64 (d : Int)]) ∧ Below w4.heap.size w4 w') := hide (by
      rw [HND.out.1, HND.out.2]
      exact size_st w4 _ _ w4 _ ns fp (Nat.le_refl _) (by have := HCN.out; omega) hk (Below.refl _ _))
    have HF := hide (fun wx (hx : Below w4.heap.size w4 wx) => fine_st w4 _ _ wx _ ns fp false false (Nat.le_refl _) (by have := HCN.out; omega) HFI.out hk hx)
    have HB4 := hide (HB2.out.trans (hb4.mono HB2.out.size))
    clear hb4 hk HBU HB2 hm2 HCN HDP HFI
    go_wp2_with fail
    refine HS.out.mono ?_
    rintro e w5 ⟨rfl, hb5⟩
    have HF5 := hide (HF.out w5 hb5)
    have HB5 := hide (HB4.out.trans (hb5.mono HB4.out.size))
    clear hb5 HS HF HB4
    go_wp2_with fail
    refine HF5.out.mono ?_
    rintro e w6 ⟨rfl, hb6⟩
    have HB6 := hide (HB5.out.trans (hb6.mono HB5.out.size))
    have hee := HEE.out
    have hmm := HM2.out
    clear hb6 HF5 HB5 HEE HM2 HND
    rcases hee with rfl | ⟨rfl, h0⟩
    · clear hmm
      go_wp2_with fail
      go_ret
      exact ⟨rfl, HB6.out⟩
    · rw [h0] at hmm
      subst hmm
      go_wp2_with fail
      go_ret
      exact ⟨rfl, HB6.out⟩
end Go.Proofs.Ytkdppcpkigpmdaa
