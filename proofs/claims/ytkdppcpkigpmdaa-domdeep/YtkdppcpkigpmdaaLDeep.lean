/-
  The law DomDeep, walked: it answers true at every two numbers.
-/
import Derived.Test.YtkdppcpkigpmdaaH1
namespace Go.Proofs.Ytkdppcpkigpmdaa
open Go.RowKit
open Utf1

theorem infoTok : (Try.prog.info? 36).map (fun i => (i.zero, i.size, i.bytes)) = some (some (.agg #[.int .i64 0, .string ⟨#[]⟩, .slice none 0 0, .bool false, .string ⟨#[]⟩]), 5, 72) := by kernel_rfl
theorem five_new (w : World) (A : Array Value) (ty : TypeId) : ∀ j u, A.toList[j]? = some u → (w.alloc (.cells A ty)).cell? ((⟨w.heap.size, 0, none⟩ : Addr).add j) = some u := by
  intro j u h
  have : (⟨w.heap.size, 0, none⟩ : Addr).add j = ⟨w.heap.size, j, none⟩ := by
    simp [Addr.add]
    exact Eq.symm
  rw [this, new_cell, ← Array.getElem?_toList]
  exact h
theorem tok_one (e : Te) : ∀ u ∈ tokCells1 e, u.oneCell' = true := by
  intro u hu
  simp only [tokCells1, List.mem_cons, List.not_mem_nil, or_false] at hu
  rcases hu with rfl | rfl | rfl | rfl | rfl <;> rfl

theorem tokrow_below {w w' : World} {v : Value} {l : List Te} (h : TokRow w v l) (hb : Below w.heap.size w w') : TokRow w' v l := by
  obtain ⟨p, c, rfl, hc⟩ := h
  refine ⟨p, c, rfl, ?_⟩
  intro i e hi
  obtain ⟨g, hp, x0, x1, x2, x3, x4⟩ := hc i e hi
  exact ⟨g, hp, cell_keep x0 hb, cell_keep x1 hb, cell_keep x2 hb, cell_keep x3 hb, cell_keep x4 hb⟩
theorem sum_eB : ∀ k, textSum (List.replicate k eB) = 0
  | 0 => rfl
  | k + 1 => by
    rw [List.replicate_succ]
    show 0 + textSum (List.replicate k eB) = 0
    rw [sum_eB k]
theorem sum_eBr : ∀ k, textSum (List.replicate k eBr) = 0
  | 0 => rfl
  | k + 1 => by
    rw [List.replicate_succ]
    show 0 + textSum (List.replicate k eBr) = 0
    rw [sum_eBr k]

/-- A Build of tokens without attributes, and what Size tells of what is built. -/
theorem build_plain (w : World) (v : Value) (l : List Te) (hl : TokRow w v l) (hlen : l.length ≤ 1000000000) (hsum : textSum l ≤ 100000000) (hnm : ∀ e ∈ l, e.1.name.length ≤ 281474976710656) (hat : ∀ e ∈ l, e.1.attrs = [] ∧ e.2.1 = (none, 0, 0)) :
    Calls Try.prog 11 #[v] w fun e w' => ∃ r, e = .returned (.tuple #[r, .int .i64 (if (buildB (l.map Prod.fst)).isSome then 0 else 5)]) ∧ (∃ fp, KAt w' w.heap.size r ((buildB (l.map Prod.fst)).getD []) fp) ∧ Below w.heap.size w w' := by
  refine (build_st w v l hl hlen hsum hnm ?_).mono ?_
  · intro e he
    obtain ⟨h1, h2⟩ := hat e he
    rw [h1, h2]
    exact clones_nil _ _
  · rintro e w' ⟨r, err, rfl, hE, hb⟩
    obtain ⟨fp, hk, rfl⟩ := hE.got
    exact ⟨r, rfl, ⟨fp, hk⟩, hb⟩

set_option maxRecDepth 100000 in
set_option maxHeartbeats 8000000 in
theorem lawDeep_walk (deep many : Int) (w : World) (_h1 : (Lit.int .i64 deep).wf = true) (_h2 : (Lit.int .i64 many).wf = true) :
    Calls Try.prog 7 #[.int .i64 deep, .int .i64 many] w fun e w' => e = .returned (.bool true) ∧ Below w.heap.size w w' := by
  clear _h1 _h2
  by_cases a1 : deep < 0
  · have d1 : decide (deep < 0) = true := decide_eq_true a1
    go_enter Try.func7, Try.ntmps7
    go_wp2_with fail
    refine (awake_st _).mono ?_
    rintro e w1 ⟨rfl, hb1⟩
    go_wp2_with fail
    go_ret
    exact ⟨rfl, hb1⟩
  have d1 : decide (deep < 0) = false := decide_eq_false a1
  by_cases a2 : 80 < deep
  · have d2 : decide (80 < deep) = true := decide_eq_true a2
    go_enter Try.func7, Try.ntmps7
    go_wp2_with fail
    refine (awake_st _).mono ?_
    rintro e w1 ⟨rfl, hb1⟩
    go_wp2_with fail
    go_ret
    exact ⟨rfl, hb1⟩
  have d2 : decide (80 < deep) = false := decide_eq_false a2
  by_cases a3 : many < 0
  · have d3 : decide (many < 0) = true := decide_eq_true a3
    go_enter Try.func7, Try.ntmps7
    go_wp2_with fail
    refine (awake_st _).mono ?_
    rintro e w1 ⟨rfl, hb1⟩
    go_wp2_with fail
    go_ret
    exact ⟨rfl, hb1⟩
  have d3 : decide (many < 0) = false := decide_eq_false a3
  by_cases a4 : 2100 < many
  · have d4 : decide (2100 < many) = true := decide_eq_true a4
    go_enter Try.func7, Try.ntmps7
    go_wp2_with fail
    refine (awake_st _).mono ?_
    rintro e w1 ⟨rfl, hb1⟩
    go_wp2_with fail
    go_ret
    exact ⟨rfl, hb1⟩
  have d4 : decide (2100 < many) = false := decide_eq_false a4
  obtain ⟨D, rfl⟩ : ∃ D : Nat, deep = (D : Int) := ⟨deep.toNat, by omega⟩
  obtain ⟨M, rfl⟩ : ∃ M : Nat, many = (M : Int) := ⟨many.toNat, by omega⟩
  have hD : D ≤ 80 := by omega
  have hM : M ≤ 2100 := by omega
  obtain ⟨i0, hi, hz0, hz1, hz2⟩ := info_parts infoTok
  go_enter Try.func7, Try.ntmps7
  go_wp2_with fail
  refine (awake_st _).mono ?_
  rintro e w1 ⟨rfl, hb1⟩
  have HB1 := hide hb1
  clear hb1
  go_wp2_with fail
  go_loopg [6, 7] D (fun k v6 v7 wr => ∃ i : Nat, i + k = D ∧ v7 = .int .i64 (i : Int) ∧ (∃ p m c, v6 = .slice p m c) ∧ Hid (wr.ownsRow w1.heap.size 36 5 v6 i (tokCells (List.replicate i eB))) ∧ Hid (Below w1.heap.size w1 wr))
  case atStart => exact ⟨0, by omega, rfl, ⟨_, _, _, rfl⟩, hide (World.ownsRow_nil _ _ _ _), hide (Below.refl _ _)⟩
  case round =>
    obtain ⟨i, hik, rfl, ⟨p, m, c, rfl⟩, HO, HB⟩ := hrel
    by_cases hlt : i < D
    · have hd : decide ((i : Int) < (D : Int)) = true := decide_eq_true (by omega)
      have hbz : w1.heap.size ≤ wr.heap.size := HB.out.size
      have hal : Below wr.heap.size wr (wr.alloc (.cells #[.int .i64 2, .string ⟨#[98]⟩, .slice none 0 0, .bool false, .string ⟨#[]⟩] 36)) := (Below.refl _ _).alloc (Nat.le_refl _) _
      have HO2 := hide (own_below HO.out hal)
      have HB2 := hide (HB.out.alloc hbz (.cells #[.int .i64 2, .string ⟨#[98]⟩, .slice none 0 0, .bool false, .string ⟨#[]⟩] 36))
      clear hal
      go_wp2_with (at_builtin; refine wpList_append_own _ rfl _ _ 22 rfl w1.heap.size 36 i0 _ 5 72 Try.underlying22 hi hz0 hz1 hz2 rfl (by decide) (.slice p m c) i (tokCells (List.replicate i eB)) rfl HO2.out ⟨wr.heap.size, 0, none⟩ 1 1 (tokCells1 eB) rfl rfl (five_new wr _ _) (tok_one _) (by unfold maxLen; omega) (by omega) (by simp; omega) ?_)
      intro v' w5 hown5 hgr5 _
      obtain ⟨bp, bm, bc, rfl⟩ := own_slice hown5
      have HO5 : Hid (w5.ownsRow w1.heap.size 36 5 (.slice bp bm bc) (i + 1) (tokCells (List.replicate (i + 1) eB))) := hide (by
        rw [List.replicate_succ', tokCells_app]
        exact hown5)
      have HB5 := hide (HB2.out.grown hgr5 (by simp; omega) (fun j hj => (HO2.out.lt j hj).1))
      clear hown5 hgr5 HO2 HB2 HO HB
      go_wp2_with fail
      go_roundg (gk - 1)
      case measure => omega
      case rel => exact ⟨i + 1, by omega, by first | rfl | simp, ⟨_, _, _, rfl⟩, HO5, HB5⟩
    · have hd : decide ((i : Int) < (D : Int)) = false := decide_eq_false (by omega)
      have e : i = D := by omega
      subst e
      have HT1 := hide (tok_own (l := List.replicate i eB) (by rw [List.length_replicate]; exact HO.out))
      have HBA := hide (HB1.out.trans (HB.out.mono HB1.out.size))
      obtain ⟨w2, hw2⟩ : ∃ w2, w2 = wr := ⟨_, rfl⟩
      rw [← hw2] at HT1 HBA ⊢
      clear hw2 HO HB HB1 hik
      go_wp2_with fail
      go_loopg [8, 9] M (fun k v8 v9 wr => ∃ j : Nat, j + k = M ∧ v9 = .int .i64 (j : Int) ∧ (∃ p m c, v8 = .slice p m c) ∧ Hid (wr.ownsRow w2.heap.size 36 5 v8 j (tokCells (List.replicate j eBr))) ∧ Hid (Below w2.heap.size w2 wr))
      case atStart => exact ⟨0, by omega, rfl, ⟨_, _, _, rfl⟩, hide (World.ownsRow_nil _ _ _ _), hide (Below.refl _ _)⟩
      case round =>
        obtain ⟨j, hjk, rfl, ⟨p2, m2, c2, rfl⟩, HO, HB⟩ := hrel
        by_cases hlt2 : j < M
        · have hd2 : decide ((j : Int) < (M : Int)) = true := decide_eq_true (by omega)
          have hbz : w2.heap.size ≤ wr.heap.size := HB.out.size
          have hal : Below wr.heap.size wr (wr.alloc (.cells #[.int .i64 2, .string ⟨#[98, 114]⟩, .slice none 0 0, .bool false, .string ⟨#[]⟩] 36)) := (Below.refl _ _).alloc (Nat.le_refl _) _
          have HO2 := hide (own_below HO.out hal)
          have HB2 := hide (HB.out.alloc hbz (.cells #[.int .i64 2, .string ⟨#[98, 114]⟩, .slice none 0 0, .bool false, .string ⟨#[]⟩] 36))
          clear hal
          go_wp2_with (at_builtin; refine wpList_append_own _ rfl _ _ 22 rfl w2.heap.size 36 i0 _ 5 72 Try.underlying22 hi hz0 hz1 hz2 rfl (by decide) (.slice p2 m2 c2) j (tokCells (List.replicate j eBr)) rfl HO2.out ⟨wr.heap.size, 0, none⟩ 1 1 (tokCells1 eBr) rfl rfl (five_new wr _ _) (tok_one _) (by unfold maxLen; omega) (by omega) (by simp; omega) ?_)
          intro v' w5 hown5 hgr5 _
          obtain ⟨bp, bm, bc, rfl⟩ := own_slice hown5
          have HO5 : Hid (w5.ownsRow w2.heap.size 36 5 (.slice bp bm bc) (j + 1) (tokCells (List.replicate (j + 1) eBr))) := hide (by
            rw [List.replicate_succ', tokCells_app]
            exact hown5)
          have HB5 := hide (HB2.out.grown hgr5 (by simp; omega) (fun j hj => (HO2.out.lt j hj).1))
          clear hown5 hgr5 HO2 HB2 HO HB
          go_wp2_with fail
          go_roundg (gk - 1)
          case measure => omega
          case rel => exact ⟨j + 1, by omega, by first | rfl | simp, ⟨_, _, _, rfl⟩, HO5, HB5⟩
        · have hd2 : decide ((j : Int) < (M : Int)) = false := decide_eq_false (by omega)
          have e : j = M := by omega
          subst e
          have HT2 := hide (tok_own (l := List.replicate j eBr) (by rw [List.length_replicate]; exact HO.out))
          have HT1r := hide (tokrow_below HT1.out HB.out)
          have HBB := hide (HBA.out.trans (HB.out.mono HBA.out.size))
          have HBU1 := hide (build_plain wr _ (List.replicate i eB) HT1r.out (by simp; omega) (by rw [sum_eB]; omega) (fun e he => by rw [(List.mem_replicate.1 he).2]; decide) (fun e he => by rw [(List.mem_replicate.1 he).2]; exact ⟨rfl, rfl⟩))
          obtain ⟨mB1, mB2⟩ := buildB_eB i
          obtain ⟨mR1, mR2⟩ := buildB_eBr j
          obtain ⟨b1, hb1e⟩ : ∃ b, b = buildB ((List.replicate i eB).map Prod.fst) := ⟨_, rfl⟩
          obtain ⟨b2, hb2e⟩ : ∃ b, b = buildB ((List.replicate j eBr).map Prod.fst) := ⟨_, rfl⟩
          have hc1 := build_cnt' ((List.replicate i eB).map Prod.fst)
          have hc2 := build_cnt' ((List.replicate j eBr).map Prod.fst)
          have HBU2 := hide (fun wx (hx : TokRow wx (.slice p2 m2 c2) (List.replicate j eBr)) => build_plain wx _ (List.replicate j eBr) hx (by simp; omega) (by rw [sum_eBr]; omega) (fun e he => by rw [(List.mem_replicate.1 he).2]; decide) (fun e he => by rw [(List.mem_replicate.1 he).2]; exact ⟨rfl, rfl⟩))
          rw [← hb1e] at mB1 mB2 hc1 HBU1
          rw [← hb2e] at mR1 mR2 hc2 HBU2
          obtain ⟨E1, hE1⟩ : ∃ E : Int, E = if b1.isSome then 0 else 5 := ⟨_, rfl⟩
          obtain ⟨E2, hE2⟩ : ∃ E : Int, E = if b2.isSome then 0 else 5 := ⟨_, rfl⟩
          rw [← hE1] at HBU1
          rw [← hE2] at HBU2
          have HE1 := hide hE1
          have HE2 := hide hE2
          clear hE1 hE2
          have HM1 := hide (And.intro mB1 mB2)
          have HM2 := hide (And.intro mR1 mR2)
          clear mB1 mB2 mR1 mR2 hb1e hb2e HT1r HT1 HBA HB HO hjk
          go_wp2_with fail
          refine HBU1.out.mono ?_
          rintro e w3 ⟨r1, rfl, hk1, hb3⟩
          have HK1 := hide hk1
          have HT3 := hide (HBU2.out w3 (tokrow_below HT2.out hb3))
          have HB3 := hide (HBB.out.trans (hb3.mono HBB.out.size))
          clear hk1 hb3 HBU1 HBU2 HT2 HBB
          go_wp2_with fail
          refine HT3.out.mono ?_
          rintro e w4 ⟨r2, rfl, ⟨fp2, hk2⟩, hb4⟩
          obtain ⟨fp1, hk1⟩ := HK1.out
          have HS1 := hide (size_st w4 _ _ w4 r1 _ fp1 (Nat.le_refl _) (by omega) (hk1.under hb4) (Below.refl _ _))
          have HS2 := hide (fun wx (hx : Below w4.heap.size w4 wx) => size_st w4 _ _ wx r2 _ fp2 (Nat.le_refl _) (by omega) hk2 hx)
          have HB4 := hide (HB3.out.trans (hb4.mono HB3.out.size))
          clear hk1 hk2 hb4 HK1 HT3 HB3
          go_wp2_with fail
          refine HS1.out.mono ?_
          rintro e w5 ⟨rfl, hb5⟩
          have HS2b := hide (HS2.out w5 hb5)
          have HB5 := hide (HB4.out.trans (hb5.mono HB4.out.size))
          clear hb5 HS1 HS2 HB4
          go_wp2_with fail
          refine HS2b.out.mono ?_
          rintro e w6 ⟨rfl, hb6⟩
          have HB6 := hide (HB5.out.trans (hb6.mono HB5.out.size))
          clear hb6 HS2b HB5
          have g1 : (i ≤ 64 ∧ E1 = 0 ∧ cntL (b1.getD []) = i ∧ deepL (b1.getD []) = i) ∨ (¬ i ≤ 64 ∧ E1 = 5) := by
            rw [HE1.out]
            by_cases h : i ≤ 64
            · obtain ⟨ns, e1, e2, e3⟩ := HM1.out.1 h
              rw [e1]
              exact .inl ⟨h, rfl, e2, e3⟩
            · rw [HM1.out.2 h]
              exact .inr ⟨h, rfl⟩
          have g2 : (j ≤ 2000 ∧ E2 = 0 ∧ cntL (b2.getD []) = j ∧ deepL (b2.getD []) = min j 1) ∨ (¬ j ≤ 2000 ∧ E2 = 5) := by
            rw [HE2.out]
            by_cases h : j ≤ 2000
            · obtain ⟨ns, e1, e2, e3⟩ := HM2.out.1 h
              rw [e1]
              exact .inl ⟨h, rfl, e2, e3⟩
            · rw [HM2.out.2 h]
              exact .inr ⟨h, rfl⟩
          clear HM1 HM2 hc1 hc2 HE1 HE2
          have q3 : ((min j 1 : Nat) : Int) = min (j : Int) 1 := by omega
          rcases g1 with ⟨k1, rfl, e1, e2⟩ | ⟨k1, rfl⟩
          · have q1 : decide ((i : Int) ≤ 64) = true := decide_eq_true (by omega)
            rcases g2 with ⟨k2, rfl, e3, e4⟩ | ⟨k2, rfl⟩
            · have q2 : decide ((j : Int) ≤ 2000) = true := decide_eq_true (by omega)
              rw [e1, e2, e3, e4, q3]
              clear e1 e2 e3 e4 q3
              go_wp2_with fail
              go_ret
              exact ⟨by simp, HB6.out⟩
            · have q2 : decide ((j : Int) ≤ 2000) = false := decide_eq_false (by omega)
              rw [e1, e2]
              clear e1 e2 q3
              go_wp2_with fail
              go_ret
              exact ⟨by simp, HB6.out⟩
          · have q1 : decide ((i : Int) ≤ 64) = false := decide_eq_false (by omega)
            rcases g2 with ⟨k2, rfl, e3, e4⟩ | ⟨k2, rfl⟩
            · have q2 : decide ((j : Int) ≤ 2000) = true := decide_eq_true (by omega)
              rw [e3, e4, q3]
              clear e3 e4 q3
              go_wp2_with fail
              go_ret
              exact ⟨by simp, HB6.out⟩
            · have q2 : decide ((j : Int) ≤ 2000) = false := decide_eq_false (by omega)
              clear q3
              go_wp2_with fail
              go_ret
              exact ⟨by simp, HB6.out⟩
end Go.Proofs.Ytkdppcpkigpmdaa
