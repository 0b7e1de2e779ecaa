/-
  The law DomBuilds, walked: it answers true at every tokens.
-/
import Derived.Test.YtkdppcpkigpmdaaR31
namespace Go.Proofs.Ytkdppcpkigpmdaa
open Go.RowKit
open Utf1

set_option maxRecDepth 100000 in
set_option maxHeartbeats 8000000 in
theorem lawBuilds_walk (v : Value) (l : List Te) (w : World) (hl : TokArg w v l) :
    Calls Try.prog 3 #[v] w fun e w' => e = .returned (.bool true) ∧ Below w.heap.size w w' := by
  obtain ⟨p, c, rfl, -⟩ := id hl.1
  have HL := hide hl
  obtain ⟨N, hN⟩ : ∃ N, N = l.length := ⟨_, rfl⟩
  rw [← hN] at HL ⊢
  clear hl hN
  go_enter Try.func3, Try.ntmps3
  go_wp2_with fail
  refine (awake_st _).mono ?_
  rintro e w1 ⟨rfl, hb1⟩
  have HL1 := hide (HL.out.below hb1)
  have HB1 := hide hb1
  clear hb1 HL
  go_wp2_with fail
  refine (light_arg HL1.out).mono ?_
  rintro e w2 ⟨rfl, hb2⟩
  have HL2 := hide (HL1.out.below hb2)
  have HB2 := hide (HB1.out.trans (hb2.mono HB1.out.size))
  clear hb2 HL1 HB1
  by_cases hw : tokWs l < 6000
  case neg =>
    rw [decide_eq_false hw]
    go_wp2_with fail
    refine (named_arg HL2.out).mono ?_
    rintro e w3 ⟨b, rfl, -, rfl⟩
    clear HL2
    cases b with
    | false =>
      go_wp2_with fail
      go_ret
      exact ⟨rfl, HB2.out⟩
    | true =>
      go_wp2_with fail
      go_ret
      exact ⟨rfl, HB2.out⟩
  rw [decide_eq_true hw]
  go_wp2_with fail
  refine (named_arg HL2.out).mono ?_
  rintro e w3 ⟨b, rfl, hnm, rfl⟩
  cases b with
  | false =>
    clear hnm
    go_wp2_with fail
    go_ret
    exact ⟨rfl, HB2.out⟩
  | true =>
    have HBU := hide (build_arg HL2.out hw)
    have HRB := hide (fun wx (hx : Below w3.heap.size w3 wx) => rbuild_st wx _ l (HL2.out.below hx) hw (hnm rfl))
    obtain ⟨ns, hns⟩ : ∃ ns, ns = (buildB (l.map Prod.fst)).getD [] := ⟨_, rfl⟩
    obtain ⟨E, hE⟩ : ∃ E : Int, E = if (buildB (l.map Prod.fst)).isSome then 0 else 5 := ⟨_, rfl⟩
    rw [← hns, ← hE] at HBU
    simp only [← hns, ← hE] at HRB
    have HBU : Hid (Calls Try.prog 11 #[.slice p N c] w3 fun e w' => ∃ p2 m2 c2, e = .returned (.tuple #[.slice p2 m2 c2, .int .i64 E]) ∧ (∃ fp, KAt w' w3.heap.size (.slice p2 m2 c2) ns fp) ∧ Below w3.heap.size w3 w') := hide (by
      refine HBU.out.mono ?_
      rintro e w' ⟨r, rfl, ⟨fp, hk⟩, hb⟩
      obtain ⟨p2, c2, rfl, -⟩ := kat_node hk
      exact ⟨_, _, _, rfl, ⟨fp, hk⟩, hb⟩)
    have HEE : Hid (E = 0 ∨ E = 5) := hide (by
      rw [hE]
      cases (buildB (l.map Prod.fst)).isSome with
      | true => exact .inl rfl
      | false => exact .inr rfl)
    clear hns hE HL2 hw hnm
    go_wp2_with fail
    refine HBU.out.mono ?_
    rintro e w4 ⟨p2, m2, c2, rfl, ⟨fp, hk⟩, hb4⟩
    have HK := hide hk
    have HR4 := hide (HRB.out w4 hb4)
    have HB4 := hide (HB2.out.trans (hb4.mono HB2.out.size))
    clear hb4 hk HBU HB2 HRB
    go_wp2_with fail
    refine HR4.out.mono ?_
    rintro e w5 ⟨p3, m3, c3, rfl, ⟨fq, hr⟩, hb5⟩
    have HS := hide (same_tree w4 w5 _ _ hb5 _ _ _ ns _ _ (Nat.le_refl _) (HK.out.under hb5) hr 0)
    have HB5 := hide (HB4.out.trans (hb5.mono HB4.out.size))
    clear hb5 HK HR4 HB4 hr
    go_wp2_with fail
    refine HS.out.mono ?_
    rintro e w6 ⟨rfl, n, rfl⟩
    have HB6 : Hid (Below w.heap.size w ((w5.drewN 0).drewN n)) := hide (bel2 HB5.out (bel2 (bel_drewN w5 0) (bel_drewN _ n)))
    clear HS HB5
    rcases HEE.out with rfl | rfl
    · go_wp2_with fail
      go_ret
      exact ⟨rfl, HB6.out⟩
    · go_wp2_with fail
      go_ret
      exact ⟨rfl, HB6.out⟩
end Go.Proofs.Ytkdppcpkigpmdaa
