/-
  The law ChainBegins.
-/
import Derived.Test.YtlabdbkmlkmnkaaLC3
namespace Go.Proofs.Ytlabdbkmlkmnkaa
open Go.RowKit
open Utf1 Pol8

theorem tmod_one (i : Int) (h : 0 ≤ i) (N : Nat) : Int.tmod i ((N : Int) + 1) = ((i.toNat % (N + 1) : Nat) : Int) := by
  obtain ⟨n, rfl⟩ : ∃ n : Nat, i = (n : Int) := ⟨i.toNat, by omega⟩
  rw [Int.toNat_natCast]
  show Int.tmod (n : Int) ((N + 1 : Nat) : Int) = _
  rw [Int.ofNat_tmod]
theorem chain_at {ts : List It} (h : ∀ i, wr (ts.map It.p) i = 0) {i : Nat} {t : It} (ht : ts[i]? = some t) : t.p.ep = (i : Int) + 1 :=
  (wr_zero (h i) (show (ts.map It.p)[i]? = some t.p by rw [List.getElem?_map, ht]; rfl)).2.1
/-- In a chain the policy of an epoch is that of the number one less. -/
theorem at_chain {ts : List It} (h : ∀ i, wr (ts.map It.p) i = 0) (hf : ∀ t ∈ ts, fits t.p) (hl : ts.length ≤ 100000) {i : Nat} {t : It} (ht : ts[i]? = some t) (v : Value) (w : World) (hv : PolRow w v ts) :
    Calls Try.prog 14 #[v, .int .i64 ((i : Int) + 1)] w fun e w' => (∃ t' : It, e = .returned (.tuple #[t'.val, .bool true]) ∧ t'.p = t.p ∧ t'.ok w') ∧ Below w.heap.size w w' := by
  refine (at_any v ts ((i : Int) + 1) w hf hl hv).mono ?_
  rintro e w' ⟨h1, hb⟩
  rcases h1 with ⟨j, x, t', hj, he, -, rfl, hp, hk⟩ | ⟨hn, -⟩
  · have := chain_at h hj
    have e : j = i := by omega
    subst e
    rw [ht] at hj
    cases hj
    exact ⟨⟨t', rfl, hp, hk⟩, hb⟩
  · exact absurd (chain_at h ht) (hn t (List.mem_of_getElem? ht))
theorem at_none {ts : List It} (h : ∀ i, wr (ts.map It.p) i = 0) (hf : ∀ t ∈ ts, fits t.p) (hl : ts.length ≤ 100000) (v : Value) (w : World) (hv : PolRow w v ts) :
    Calls Try.prog 14 #[v, .int .i64 ((ts.length : Int) + 1)] w fun e w' => e = .returned (.tuple #[.agg zeroP, .bool false]) ∧ Below w.heap.size w w' := by
  refine (at_any v ts ((ts.length : Int) + 1) w hf hl hv).mono ?_
  rintro e w' ⟨h1, hb⟩
  rcases h1 with ⟨j, x, t', hj, he, -, -⟩ | ⟨-, rfl⟩
  · have h1 := chain_at h hj
    have := (List.getElem?_eq_some_iff.1 hj).1
    omega
  · exact ⟨rfl, hb⟩

set_option maxRecDepth 100000 in
set_option maxHeartbeats 32000000 in
theorem lawBegins_walk (hC : CheckC) (hA : AddC) (hS : StricterC) (v : Value) (ts : List It) (nn : Int) (w : World) (hv : PolRow w v ts) :
    Calls Try.prog 5 #[v, .int .i64 nn] w fun e w' => e = .returned (.bool true) ∧ Below w.heap.size w w' := by
  have HV := hide hv
  have CW := hide (awake_any hC hA w)
  have CL : Hid (∀ wx, Below w.heap.size w wx → Calls Try.prog 9 #[v] wx fun e w' => (∃ b : Bool, e = .returned (.bool b) ∧ (b = true → ts.length ≤ 12 ∧ ∀ t ∈ ts, light t.p)) ∧ Below w.heap.size w w') := hide (fun wx h => (rlightl_any v ts wx (HV.out.below h)).mono fun e w' ⟨h1, h2⟩ => ⟨h1, bel2 h h2⟩)
  obtain ⟨p, cap, rfl, hcap, -, -⟩ := hv
  obtain ⟨N, hN⟩ : ∃ N, N = ts.length := ⟨_, rfl⟩
  have HN := hide hN
  have HC := hide hC
  have HS := hide hS
  rw [← hN] at CL hcap HV ⊢
  clear hC hA hN hS
  go_enter Try.func5, Try.ntmps5
  go_wp2_with fail
  refine CW.out.mono ?_
  rintro e w1 ⟨rfl, h1⟩
  have H1 := hide h1
  clear h1 CW
  go_wp2_with fail
  refine (CL.out _ H1.out).mono ?_
  rintro e w2 ⟨⟨b, rfl, hb⟩, h2⟩
  have H2 := hide h2
  have HB := hide hb
  clear h2 hb CL H1
  cases b with
  | false =>
    go_wp2_with fail
    go_ret
    exact ⟨rfl, H2.out⟩
  | true =>
    have hN12 : N ≤ 12 := (HB.out rfl).1
    have HL := hide (light_all (HB.out rfl).2)
    clear HB
    by_cases hn0 : nn < 0
    · go_wp2_with fail
      go_ret
      exact ⟨rfl, H2.out⟩
    obtain ⟨k, hk⟩ : ∃ k, k = nn.toNat % (N + 1) := ⟨_, rfl⟩
    have hmod : Int.tmod nn ((N : Int) + 1) = (k : Int) := by rw [hk]; exact tmod_one nn (by omega) N
    have hkN : k ≤ N := by
      have := Nat.mod_lt nn.toNat (show 0 < N + 1 by omega)
      omega
    clear hk
    have hz1 : ((N : Int) + 1 == 0) = false := beq_eq_false_iff_ne.2 (by omega)
    have K1 := hide (fun wx (h : Below w.heap.size w wx) => HC.out (.slice p N cap) ts wx HL.out (by have := HN.out; omega) (HV.out.below h))
    have K2 := hide (fun wx (h : Below w.heap.size w wx) => HC.out (.slice p k cap) (ts.take k) wx (fun t ht => HL.out t (List.mem_of_mem_take ht)) (by rw [List.length_take]; omega) ((HV.out.below h).take (by have := HN.out; omega)))
    go_wp2_with fail
    refine (K1.out _ H2.out).mono ?_
    rintro e w3 ⟨⟨E, A, rfl, hc1⟩, h3⟩
    have H3 := hide (bel2 H2.out h3)
    have HC1 := hide hc1
    clear h3 K1 H2 hc1
    have b0 : (0 : Int) ≤ (k : Int) := by omega
    have b1 : (k : Int) ≤ (cap : Int) := by omega
    go_wp2_with fail
    refine (K2.out _ H3.out).mono ?_
    rintro e w4 ⟨⟨F, B, rfl, hc2⟩, h4⟩
    have H4 := hide (bel2 H3.out h4)
    rw [List.map_take] at hc2
    obtain ⟨hb0, hb1⟩ := chk_begin (by rw [List.length_map, ← HN.out]; exact hkN) HC1.out hc2
    clear h4 K2 H3 hc2
    by_cases hE : E = 0
    · subst hE
      obtain ⟨rfl, rfl⟩ := hb0 rfl
      have hzero := (chk_zero HC1.out).2
      clear hb0 hb1 HC1
      have HIT : Hid (∀ i, i < N → ∃ (t : It) (b off : Nat), ts[i]? = some t ∧ p = some ⟨b, off, none⟩ ∧ ∀ wx, Below w.heap.size w wx → (wx.rangeAt b (off + i * 9) t.cells ∧ t.ok wx)) := hide (fun i hi => by
        have hil : i < ts.length := by have := HN.out; omega
        have ht := List.getElem?_eq_getElem hil
        obtain ⟨b, off, cp, e, -, hr, hk⟩ := HV.out.at ht
        injection e with e
        exact ⟨ts[i], b, off, ht, e, fun wx h => ⟨range_keep (hr _ _ ht) h, (hk _ _ ht).below h⟩⟩)
      have HAT : Hid (∀ (i : Nat) (t : It), ts[i]? = some t → ∀ wx, Below w.heap.size w wx → Calls Try.prog 14 #[.slice p N cap, .int .i64 ((i : Int) + 1)] wx fun e w' => (∃ t' : It, e = .returned (.tuple #[t'.val, .bool true]) ∧ t'.p = t.p ∧ t'.ok w') ∧ Below wx.heap.size wx w') := hide (fun i t ht wx h => at_chain hzero HL.out (by have := HN.out; omega) ht _ wx (HV.out.below h))
      have HAE : Hid (∀ wx, Below w.heap.size w wx → Calls Try.prog 14 #[.slice p N cap, .int .i64 ((N : Int) + 1)] wx fun e w' => e = .returned (.tuple #[.agg zeroP, .bool false]) ∧ Below wx.heap.size wx w') := hide (fun wx h => by
        have := at_none hzero HL.out (by have := HN.out; omega) (.slice p N cap) wx (HV.out.below h)
        rw [← HN.out] at this
        exact this)
      have HST : Hid (∀ (i j : Nat) (t x : It), j < i → ts[i]? = some t → ts[j]? = some x → stricter t.p x.p = true) := hide (fun i j t x hji ht hx => chain_stricter hzero hji (by rw [List.getElem?_map, ht]; rfl) (by rw [List.getElem?_map, hx]; rfl))
      clear hzero HC
      go_wp2_with fail
      go_loopg [11] N (fun g v11 wx => ∃ i : Nat, i + g = N ∧ v11 = .int .i64 (i : Int) ∧ Hid (Below w.heap.size w wx))
      case atStart => exact ⟨0, by omega, rfl, H4⟩
      case round =>
        obtain ⟨i, hi, rfl, HU⟩ := hrel
        clear H4
        by_cases hlt : i < N
        · obtain ⟨t, b, off, ht, rfl, hrk⟩ := HIT.out i hlt
          have HRK := hide hrk
          have HT := hide ht
          have C1 := hide (HAT.out i t ht _ HU.out)
          have hft := HL.out t (List.mem_of_getElem? ht)
          clear hrk ht HAE
          obtain ⟨P, v1, v2, v3, v4, v5, l1, l2, l3, l4, l5⟩ := t
          go_wp2_with fail
          rename_i kk
          refine C1.out.mono ?_
          rintro e w5 ⟨⟨t', rfl, hp, hok⟩, h5⟩
          refine kk _ _ ?_
          clear kk C1
          obtain ⟨Q, u1, u2, u3, u4, u5, m1, m2, m3, m4, m5⟩ := t'
          have hp : Q = P := hp
          subst hp
          have HQ : Hid (PolV w5 u1 u2 u3 u4 u5 Q m1 m2 m3 m4 m5) := hide hok
          have H5 := hide (bel2 HU.out h5)
          clear hok h5
          obtain ⟨p1, q1, rfl, -, -⟩ := HQ.out.s1
          obtain ⟨p2, q2, rfl, -, -⟩ := HQ.out.s2
          obtain ⟨p3, q3, rfl, -, -⟩ := HQ.out.s3
          obtain ⟨p4, q4, rfl, -, -⟩ := HQ.out.s4
          obtain ⟨p5, q5, rfl, -, -⟩ := HQ.out.s5
          obtain ⟨w6, hw6⟩ : ∃ w6, w6 = w5.alloc (.cells #[.int .i64 Q.ep, .slice p1 (List.length m1) q1, .slice p2 (List.length m2) q2, .slice p3 (List.length m3) q3, .slice p4 (List.length m4) q4, .slice p5 (List.length m5) q5, .int .i64 Q.dp, .int .i64 Q.nd, .int .i64 Q.bt] 30) := ⟨_, rfl⟩
          have H6 : Hid (BoxP w5 #[.int .i64 Q.ep, .slice p1 (List.length m1) q1, .slice p2 (List.length m2) q2, .slice p3 (List.length m3) q3, .slice p4 (List.length m4) q4, .slice p5 (List.length m5) q5, .int .i64 Q.dp, .int .i64 Q.nd, .int .i64 Q.bt] w6) := hide (by rw [hw6]; exact ⟨new_block _ _ _, bel_alloc (Below.refl _ _) _⟩)
          go_upto_region 13 with fail
          rw [← hw6]
          clear hw6
          have CS : Hid (∀ wx, BoxP w5 #[.int .i64 Q.ep, .slice p1 (List.length m1) q1, .slice p2 (List.length m2) q2, .slice p3 (List.length m3) q3, .slice p4 (List.length m4) q4, .slice p5 (List.length m5) q5, .int .i64 Q.dp, .int .i64 Q.nd, .int .i64 Q.bt] wx → Calls Try.prog 15 #[pval Q (.slice p1 m1.length q1) (.slice p2 m2.length q2) (.slice p3 m3.length q3) (.slice p4 m4.length q4) (.slice p5 m5.length q5), pval Q v1 v2 v3 v4 v5] wx fun e w' => e = .returned (.bool true) ∧ BoxP w5 #[.int .i64 Q.ep, .slice p1 (List.length m1) q1, .slice p2 (List.length m2) q2, .slice p3 (List.length m3) q3, .slice p4 (List.length m4) q4, .slice p5 (List.length m5) q5, .int .i64 Q.dp, .int .i64 Q.nd, .int .i64 Q.bt] w') := hide (fun wx h => by
            have := rsameP_any _ _ _ _ _ _ _ _ _ _ Q Q _ _ _ _ _ _ _ _ _ _ wx (HQ.out.below h.2) (HRK.out wx (bel2 H5.out h.2)).2 hft hft
            rw [(sameP_iff Q Q).2 rfl] at this
            exact this.mono fun e w' ⟨h1, h2⟩ => ⟨h1, h.keep h2⟩)
          have SK : Hid (∀ wx, BoxP w5 #[.int .i64 Q.ep, .slice p1 (List.length m1) q1, .slice p2 (List.length m2) q2, .slice p3 (List.length m3) q3, .slice p4 (List.length m4) q4, .slice p5 (List.length m5) q5, .int .i64 Q.dp, .int .i64 Q.nd, .int .i64 Q.bt] wx → wx.cell? ⟨w5.heap.size, 0, none⟩ = some (.int .i64 Q.ep) ∧ wx.cell? ⟨w5.heap.size, 1, none⟩ = some (.slice p1 (List.length m1) q1) ∧ wx.cell? ⟨w5.heap.size, 2, none⟩ = some (.slice p2 (List.length m2) q2) ∧ wx.cell? ⟨w5.heap.size, 3, none⟩ = some (.slice p3 (List.length m3) q3) ∧ wx.cell? ⟨w5.heap.size, 4, none⟩ = some (.slice p4 (List.length m4) q4) ∧ wx.cell? ⟨w5.heap.size, 5, none⟩ = some (.slice p5 (List.length m5) q5) ∧ wx.cell? ⟨w5.heap.size, 6, none⟩ = some (.int .i64 Q.dp) ∧ wx.cell? ⟨w5.heap.size, 7, none⟩ = some (.int .i64 Q.nd) ∧ wx.cell? ⟨w5.heap.size, 8, none⟩ = some (.int .i64 Q.bt) ∧ wx.cell? ⟨b, off + i * 9, none⟩ = some (.int .i64 Q.ep) ∧ wx.cell? ⟨b, off + i * 9 + 1, none⟩ = some (v1) ∧ wx.cell? ⟨b, off + i * 9 + 2, none⟩ = some (v2) ∧ wx.cell? ⟨b, off + i * 9 + 3, none⟩ = some (v3) ∧ wx.cell? ⟨b, off + i * 9 + 4, none⟩ = some (v4) ∧ wx.cell? ⟨b, off + i * 9 + 5, none⟩ = some (v5) ∧ wx.cell? ⟨b, off + i * 9 + 6, none⟩ = some (.int .i64 Q.dp) ∧ wx.cell? ⟨b, off + i * 9 + 7, none⟩ = some (.int .i64 Q.nd) ∧ wx.cell? ⟨b, off + i * 9 + 8, none⟩ = some (.int .i64 Q.bt) ∧ Hid (BoxP w5 #[.int .i64 Q.ep, .slice p1 (List.length m1) q1, .slice p2 (List.length m2) q2, .slice p3 (List.length m3) q3, .slice p4 (List.length m4) q4, .slice p5 (List.length m5) q5, .int .i64 Q.dp, .int .i64 Q.nd, .int .i64 Q.bt] wx)) := hide (fun wx h => by
            obtain ⟨b0, b1, b2, b3, b4, b5, b6, b7, b8⟩ := nine (HRK.out wx (bel2 H5.out h.2)).1
            exact ⟨h.cell 0 _ rfl, h.cell 1 _ rfl, h.cell 2 _ rfl, h.cell 3 _ rfl, h.cell 4 _ rfl, h.cell 5 _ rfl, h.cell 6 _ rfl, h.cell 7 _ rfl, h.cell 8 _ rfl, b0, b1, b2, b3, b4, b5, b6, b7, b8, hide h⟩)
          have SB : Hid (∀ wx, (wx.cell? ⟨w5.heap.size, 0, none⟩ = some (.int .i64 Q.ep) ∧ wx.cell? ⟨w5.heap.size, 1, none⟩ = some (.slice p1 (List.length m1) q1) ∧ wx.cell? ⟨w5.heap.size, 2, none⟩ = some (.slice p2 (List.length m2) q2) ∧ wx.cell? ⟨w5.heap.size, 3, none⟩ = some (.slice p3 (List.length m3) q3) ∧ wx.cell? ⟨w5.heap.size, 4, none⟩ = some (.slice p4 (List.length m4) q4) ∧ wx.cell? ⟨w5.heap.size, 5, none⟩ = some (.slice p5 (List.length m5) q5) ∧ wx.cell? ⟨w5.heap.size, 6, none⟩ = some (.int .i64 Q.dp) ∧ wx.cell? ⟨w5.heap.size, 7, none⟩ = some (.int .i64 Q.nd) ∧ wx.cell? ⟨w5.heap.size, 8, none⟩ = some (.int .i64 Q.bt) ∧ wx.cell? ⟨b, off + i * 9, none⟩ = some (.int .i64 Q.ep) ∧ wx.cell? ⟨b, off + i * 9 + 1, none⟩ = some (v1) ∧ wx.cell? ⟨b, off + i * 9 + 2, none⟩ = some (v2) ∧ wx.cell? ⟨b, off + i * 9 + 3, none⟩ = some (v3) ∧ wx.cell? ⟨b, off + i * 9 + 4, none⟩ = some (v4) ∧ wx.cell? ⟨b, off + i * 9 + 5, none⟩ = some (v5) ∧ wx.cell? ⟨b, off + i * 9 + 6, none⟩ = some (.int .i64 Q.dp) ∧ wx.cell? ⟨b, off + i * 9 + 7, none⟩ = some (.int .i64 Q.nd) ∧ wx.cell? ⟨b, off + i * 9 + 8, none⟩ = some (.int .i64 Q.bt) ∧ Hid (BoxP w5 #[.int .i64 Q.ep, .slice p1 (List.length m1) q1, .slice p2 (List.length m2) q2, .slice p3 (List.length m3) q3, .slice p4 (List.length m4) q4, .slice p5 (List.length m5) q5, .int .i64 Q.dp, .int .i64 Q.nd, .int .i64 Q.bt] wx)) → BoxP w5 #[.int .i64 Q.ep, .slice p1 (List.length m1) q1, .slice p2 (List.length m2) q2, .slice p3 (List.length m3) q3, .slice p4 (List.length m4) q4, .slice p5 (List.length m5) q5, .int .i64 Q.dp, .int .i64 Q.nd, .int .i64 Q.bt] wx) := hide (fun wx h => h.2.2.2.2.2.2.2.2.2.2.2.2.2.2.2.2.2.2.out)
          have HFT := hide hft
          clear hft HU HAT
          refine wp_region_held_drew (S := (fun wx => wx.cell? ⟨w5.heap.size, 0, none⟩ = some (.int .i64 Q.ep) ∧ wx.cell? ⟨w5.heap.size, 1, none⟩ = some (.slice p1 (List.length m1) q1) ∧ wx.cell? ⟨w5.heap.size, 2, none⟩ = some (.slice p2 (List.length m2) q2) ∧ wx.cell? ⟨w5.heap.size, 3, none⟩ = some (.slice p3 (List.length m3) q3) ∧ wx.cell? ⟨w5.heap.size, 4, none⟩ = some (.slice p4 (List.length m4) q4) ∧ wx.cell? ⟨w5.heap.size, 5, none⟩ = some (.slice p5 (List.length m5) q5) ∧ wx.cell? ⟨w5.heap.size, 6, none⟩ = some (.int .i64 Q.dp) ∧ wx.cell? ⟨w5.heap.size, 7, none⟩ = some (.int .i64 Q.nd) ∧ wx.cell? ⟨w5.heap.size, 8, none⟩ = some (.int .i64 Q.bt) ∧ wx.cell? ⟨b, off + i * 9, none⟩ = some (.int .i64 Q.ep) ∧ wx.cell? ⟨b, off + i * 9 + 1, none⟩ = some (v1) ∧ wx.cell? ⟨b, off + i * 9 + 2, none⟩ = some (v2) ∧ wx.cell? ⟨b, off + i * 9 + 3, none⟩ = some (v3) ∧ wx.cell? ⟨b, off + i * 9 + 4, none⟩ = some (v4) ∧ wx.cell? ⟨b, off + i * 9 + 5, none⟩ = some (v5) ∧ wx.cell? ⟨b, off + i * 9 + 6, none⟩ = some (.int .i64 Q.dp) ∧ wx.cell? ⟨b, off + i * 9 + 7, none⟩ = some (.int .i64 Q.nd) ∧ wx.cell? ⟨b, off + i * 9 + 8, none⟩ = some (.int .i64 Q.bt) ∧ Hid (BoxP w5 #[.int .i64 Q.ep, .slice p1 (List.length m1) q1, .slice p2 (List.length m2) q2, .slice p3 (List.length m3) q3, .slice p4 (List.length m4) q4, .slice p5 (List.length m5) q5, .int .i64 Q.dp, .int .i64 Q.nd, .int .i64 Q.bt] wx))) (by kernel_rfl) (SK.out _ (H6.out.keep ((Below.refl _ _).drew))) (fun hHeld => ?_)
          refine wpAnyH_at (i := 0) (v := ?vf0) (a1 := ?xf0) rfl (by kernel_rfl) (by kernel_rfl) (by kernel_rfl) (fun _ _ _ h => h) (Or.inl ⟨by rfl, ?yf0⟩) (by assumption) ?hf0 ?zf0
          case yf0 => (intro w hSw; (try dsimp only at hSw); go_simp; try (with_reducible rfl))
          case hf0 => (go_simp; exact rfl)
          case zf0 =>
          refine wpAnyH_at (i := 1) (v := ?vf1) (a1 := ?xf1) rfl (by kernel_rfl) (by kernel_rfl) (by kernel_rfl) (fun _ _ _ h => h) (Or.inl ⟨by rfl, ?yf1⟩) (by assumption) ?hf1 ?zf1
          case yf1 => (intro w hSw; (try dsimp only at hSw); go_simp; try (with_reducible rfl))
          case hf1 => (go_simp; exact rfl)
          case zf1 =>
          refine wpAnyH_at (i := 2) (v := ?vf2) (a1 := ?xf2) rfl (by kernel_rfl) (by kernel_rfl) (by kernel_rfl) (fun _ _ _ h => h) (Or.inl ⟨by rfl, ?yf2⟩) (by assumption) ?hf2 ?zf2
          case yf2 => (intro w hSw; (try dsimp only at hSw); go_simp; try (with_reducible rfl))
          case hf2 => (go_simp; exact rfl)
          case zf2 =>
          refine wpAnyH_at (i := 3) (v := ?vf3) (a1 := ?xf3) rfl (by kernel_rfl) (by kernel_rfl) (by kernel_rfl) (fun _ _ _ h => h) (Or.inl ⟨by rfl, ?yf3⟩) (by assumption) ?hf3 ?zf3
          case yf3 => (intro w hSw; (try dsimp only at hSw); go_simp; try (with_reducible rfl))
          case hf3 => (go_simp; exact rfl)
          case zf3 =>
          refine wpAnyH_at (i := 4) (v := ?vf4) (a1 := ?xf4) rfl (by kernel_rfl) (by kernel_rfl) (by kernel_rfl) (fun _ _ _ h => h) (Or.inl ⟨by rfl, ?yf4⟩) (by assumption) ?hf4 ?zf4
          case yf4 => (intro w hSw; (try dsimp only at hSw); go_simp; try (with_reducible rfl))
          case hf4 => (go_simp; exact rfl)
          case zf4 =>
          refine wpAnyH_ready (rs := [5]) (by kernel_rfl) (by simp) ?_
          refine AllReadyH.cons rfl (fun K hK => ?_) AllReadyH.nil
          go_simp
          refine (CS.out _ (SB.out _ (by assumption))).mono ?_
          rintro e w8 ⟨rfl, h8⟩
          try go_wp2_with fail
          refine hK.out _ _ (SK.out _ (by assumption)) (fun hHeld2 => ?_)
          clear hK K hHeld
          have hHeld := hHeld2
          clear hHeld2
          refine wpAnyH_at (i := 6) (v := ?vf6) (a1 := ?xf6) rfl (by kernel_rfl) (by kernel_rfl) (by kernel_rfl) (fun _ _ _ h => h) (Or.inl ⟨by rfl, ?yf6⟩) (by assumption) ?hf6 ?zf6
          case yf6 => (intro w hSw; (try dsimp only at hSw); go_simp; try (with_reducible rfl))
          case hf6 => (go_simp; exact rfl)
          case zf6 =>
          refine wpAnyH_done (by kernel_rfl) ?_ _
          have H7 := hide (bel2 H5.out (SB.out _ (by assumption)).2)
          clear CS SK SB H6 HQ H5
          go_wp2_with fail
          go_loopg [15] i (fun g v15 wx => ∃ j : Nat, j + g = i ∧ v15 = .int .i64 (j : Int) ∧ Hid (Below w.heap.size w wx))
          case atStart => exact ⟨0, by omega, rfl, H7⟩
          case round =>
            obtain ⟨j, hj, rfl, HU⟩ := hrel
            clear H7
            by_cases hjl : j < i
            · obtain ⟨x, b', off', hx, e, hxk⟩ := HIT.out j (by omega)
              injection e with e
              injection e with e1 e2
              subst e1 e2
              have HXK := hide hxk
              have hst := HST.out i j _ x hjl HT.out hx
              have hfx := HL.out x (List.mem_of_getElem? hx)
              clear hxk hx
              obtain ⟨X, u1, u2, u3, u4, u5, n1, n2, n3, n4, n5⟩ := x
              have CS : Hid (∀ wx, Below w.heap.size w wx → Calls Try.prog 16 #[pval Q v1 v2 v3 v4 v5, pval X u1 u2 u3 u4 u5] wx fun e w' => e = .returned (.bool true) ∧ Below w.heap.size w w') := hide (fun wx h => by
                have := HS.out _ _ _ _ _ _ _ _ _ _ Q X _ _ _ _ _ _ _ _ _ _ wx (HRK.out wx h).2 (HXK.out wx h).2 HFT.out hfx
                rw [show stricter Q X = true from hst] at this
                exact this.mono fun e w' ⟨h1, h2⟩ => ⟨h1, bel2 h h2⟩)
              have SK : Hid (∀ wx, Below w.heap.size w wx → wx.cell? ⟨b, off + i * 9, none⟩ = some (.int .i64 Q.ep) ∧ wx.cell? ⟨b, off + i * 9 + 1, none⟩ = some (v1) ∧ wx.cell? ⟨b, off + i * 9 + 2, none⟩ = some (v2) ∧ wx.cell? ⟨b, off + i * 9 + 3, none⟩ = some (v3) ∧ wx.cell? ⟨b, off + i * 9 + 4, none⟩ = some (v4) ∧ wx.cell? ⟨b, off + i * 9 + 5, none⟩ = some (v5) ∧ wx.cell? ⟨b, off + i * 9 + 6, none⟩ = some (.int .i64 Q.dp) ∧ wx.cell? ⟨b, off + i * 9 + 7, none⟩ = some (.int .i64 Q.nd) ∧ wx.cell? ⟨b, off + i * 9 + 8, none⟩ = some (.int .i64 Q.bt) ∧ wx.cell? ⟨b, off + j * 9, none⟩ = some (.int .i64 X.ep) ∧ wx.cell? ⟨b, off + j * 9 + 1, none⟩ = some (u1) ∧ wx.cell? ⟨b, off + j * 9 + 2, none⟩ = some (u2) ∧ wx.cell? ⟨b, off + j * 9 + 3, none⟩ = some (u3) ∧ wx.cell? ⟨b, off + j * 9 + 4, none⟩ = some (u4) ∧ wx.cell? ⟨b, off + j * 9 + 5, none⟩ = some (u5) ∧ wx.cell? ⟨b, off + j * 9 + 6, none⟩ = some (.int .i64 X.dp) ∧ wx.cell? ⟨b, off + j * 9 + 7, none⟩ = some (.int .i64 X.nd) ∧ wx.cell? ⟨b, off + j * 9 + 8, none⟩ = some (.int .i64 X.bt) ∧ Hid (Below w.heap.size w wx)) := hide (fun wx h => by
                obtain ⟨a0, a1, a2, a3, a4, a5, a6, a7, a8⟩ := nine (HRK.out wx h).1
                obtain ⟨b0, b1, b2, b3, b4, b5, b6, b7, b8⟩ := nine (HXK.out wx h).1
                exact ⟨a0, a1, a2, a3, a4, a5, a6, a7, a8, b0, b1, b2, b3, b4, b5, b6, b7, b8, hide h⟩)
              have SB : Hid (∀ wx, (wx.cell? ⟨b, off + i * 9, none⟩ = some (.int .i64 Q.ep) ∧ wx.cell? ⟨b, off + i * 9 + 1, none⟩ = some (v1) ∧ wx.cell? ⟨b, off + i * 9 + 2, none⟩ = some (v2) ∧ wx.cell? ⟨b, off + i * 9 + 3, none⟩ = some (v3) ∧ wx.cell? ⟨b, off + i * 9 + 4, none⟩ = some (v4) ∧ wx.cell? ⟨b, off + i * 9 + 5, none⟩ = some (v5) ∧ wx.cell? ⟨b, off + i * 9 + 6, none⟩ = some (.int .i64 Q.dp) ∧ wx.cell? ⟨b, off + i * 9 + 7, none⟩ = some (.int .i64 Q.nd) ∧ wx.cell? ⟨b, off + i * 9 + 8, none⟩ = some (.int .i64 Q.bt) ∧ wx.cell? ⟨b, off + j * 9, none⟩ = some (.int .i64 X.ep) ∧ wx.cell? ⟨b, off + j * 9 + 1, none⟩ = some (u1) ∧ wx.cell? ⟨b, off + j * 9 + 2, none⟩ = some (u2) ∧ wx.cell? ⟨b, off + j * 9 + 3, none⟩ = some (u3) ∧ wx.cell? ⟨b, off + j * 9 + 4, none⟩ = some (u4) ∧ wx.cell? ⟨b, off + j * 9 + 5, none⟩ = some (u5) ∧ wx.cell? ⟨b, off + j * 9 + 6, none⟩ = some (.int .i64 X.dp) ∧ wx.cell? ⟨b, off + j * 9 + 7, none⟩ = some (.int .i64 X.nd) ∧ wx.cell? ⟨b, off + j * 9 + 8, none⟩ = some (.int .i64 X.bt) ∧ Hid (Below w.heap.size w wx)) → Below w.heap.size w wx) := hide (fun wx h => h.2.2.2.2.2.2.2.2.2.2.2.2.2.2.2.2.2.2.out)
              have hjN : j < N := by omega
              clear hst hfx
              go_wp2_with fail
              refine wp_region_held_drew (S := (fun wx => wx.cell? ⟨b, off + i * 9, none⟩ = some (.int .i64 Q.ep) ∧ wx.cell? ⟨b, off + i * 9 + 1, none⟩ = some (v1) ∧ wx.cell? ⟨b, off + i * 9 + 2, none⟩ = some (v2) ∧ wx.cell? ⟨b, off + i * 9 + 3, none⟩ = some (v3) ∧ wx.cell? ⟨b, off + i * 9 + 4, none⟩ = some (v4) ∧ wx.cell? ⟨b, off + i * 9 + 5, none⟩ = some (v5) ∧ wx.cell? ⟨b, off + i * 9 + 6, none⟩ = some (.int .i64 Q.dp) ∧ wx.cell? ⟨b, off + i * 9 + 7, none⟩ = some (.int .i64 Q.nd) ∧ wx.cell? ⟨b, off + i * 9 + 8, none⟩ = some (.int .i64 Q.bt) ∧ wx.cell? ⟨b, off + j * 9, none⟩ = some (.int .i64 X.ep) ∧ wx.cell? ⟨b, off + j * 9 + 1, none⟩ = some (u1) ∧ wx.cell? ⟨b, off + j * 9 + 2, none⟩ = some (u2) ∧ wx.cell? ⟨b, off + j * 9 + 3, none⟩ = some (u3) ∧ wx.cell? ⟨b, off + j * 9 + 4, none⟩ = some (u4) ∧ wx.cell? ⟨b, off + j * 9 + 5, none⟩ = some (u5) ∧ wx.cell? ⟨b, off + j * 9 + 6, none⟩ = some (.int .i64 X.dp) ∧ wx.cell? ⟨b, off + j * 9 + 7, none⟩ = some (.int .i64 X.nd) ∧ wx.cell? ⟨b, off + j * 9 + 8, none⟩ = some (.int .i64 X.bt) ∧ Hid (Below w.heap.size w wx))) (by kernel_rfl) (SK.out _ (bel2 HU.out ((Below.refl _ _).drew))) (fun hHeld => ?_)
              refine wpAnyH_at (i := 0) (v := ?vh0) (a1 := ?xh0) rfl (by kernel_rfl) (by kernel_rfl) (by kernel_rfl) (fun _ _ _ h => h) (Or.inl ⟨by rfl, ?yh0⟩) (by assumption) ?hh0 ?zh0
              case yh0 => (intro w hSw; (try dsimp only at hSw); go_simp; try (with_reducible rfl))
              case hh0 => (go_simp; exact rfl)
              case zh0 =>
              refine wpAnyH_at (i := 1) (v := ?vh1) (a1 := ?xh1) rfl (by kernel_rfl) (by kernel_rfl) (by kernel_rfl) (fun _ _ _ h => h) (Or.inl ⟨by rfl, ?yh1⟩) (by assumption) ?hh1 ?zh1
              case yh1 => (intro w hSw; (try dsimp only at hSw); go_simp; try (with_reducible rfl))
              case hh1 => (go_simp; exact rfl)
              case zh1 =>
              refine wpAnyH_at (i := 2) (v := ?vh2) (a1 := ?xh2) rfl (by kernel_rfl) (by kernel_rfl) (by kernel_rfl) (fun _ _ _ h => h) (Or.inl ⟨by rfl, ?yh2⟩) (by assumption) ?hh2 ?zh2
              case yh2 => (intro w hSw; (try dsimp only at hSw); go_simp; try (with_reducible rfl))
              case hh2 => (go_simp; exact rfl)
              case zh2 =>
              refine wpAnyH_at (i := 3) (v := ?vh3) (a1 := ?xh3) rfl (by kernel_rfl) (by kernel_rfl) (by kernel_rfl) (fun _ _ _ h => h) (Or.inl ⟨by rfl, ?yh3⟩) (by assumption) ?hh3 ?zh3
              case yh3 => (intro w hSw; (try dsimp only at hSw); go_simp; try (with_reducible rfl))
              case hh3 => (go_simp; exact rfl)
              case zh3 =>
              refine wpAnyH_at (i := 4) (v := ?vh4) (a1 := ?xh4) rfl (by kernel_rfl) (by kernel_rfl) (by kernel_rfl) (fun _ _ _ h => h) (Or.inl ⟨by rfl, ?yh4⟩) (by assumption) ?hh4 ?zh4
              case yh4 => (intro w hSw; (try dsimp only at hSw); go_simp; try (with_reducible rfl))
              case hh4 => (go_simp; exact rfl)
              case zh4 =>
              refine wpAnyH_at (i := 5) (v := ?vh5) (a1 := ?xh5) rfl (by kernel_rfl) (by kernel_rfl) (by kernel_rfl) (fun _ _ _ h => h) (Or.inl ⟨by rfl, ?yh5⟩) (by assumption) ?hh5 ?zh5
              case yh5 => (intro w hSw; (try dsimp only at hSw); go_simp; try (with_reducible rfl))
              case hh5 => (go_simp; exact rfl)
              case zh5 =>
              refine wpAnyH_at (i := 6) (v := ?vh6) (a1 := ?xh6) rfl (by kernel_rfl) (by kernel_rfl) (by kernel_rfl) (fun _ _ _ h => h) (Or.inl ⟨by rfl, ?yh6⟩) (by assumption) ?hh6 ?zh6
              case yh6 => (intro w hSw; (try dsimp only at hSw); go_simp; try (with_reducible rfl))
              case hh6 => (go_simp; exact rfl)
              case zh6 =>
              refine wpAnyH_at (i := 7) (v := ?vh7) (a1 := ?xh7) rfl (by kernel_rfl) (by kernel_rfl) (by kernel_rfl) (fun _ _ _ h => h) (Or.inl ⟨by rfl, ?yh7⟩) (by assumption) ?hh7 ?zh7
              case yh7 => (intro w hSw; (try dsimp only at hSw); go_simp; try (with_reducible rfl))
              case hh7 => (go_simp; exact rfl)
              case zh7 =>
              refine wpAnyH_ready (rs := [8]) (by kernel_rfl) (by simp) ?_
              refine AllReadyH.cons rfl (fun K hK => ?_) AllReadyH.nil
              go_simp
              refine (CS.out _ (SB.out _ (by assumption))).mono ?_
              rintro e w8 ⟨rfl, h8⟩
              try go_wp2_with fail
              refine hK.out _ _ (SK.out _ (by assumption)) (fun hHeld2 => ?_)
              clear hK K hHeld
              have hHeld := hHeld2
              clear hHeld2
              refine wpAnyH_at (i := 9) (v := ?vh9) (a1 := ?xh9) rfl (by kernel_rfl) (by kernel_rfl) (by kernel_rfl) (fun _ _ _ h => h) (Or.inl ⟨by rfl, ?yh9⟩) (by assumption) ?hh9 ?zh9
              case yh9 => (intro w hSw; (try dsimp only at hSw); go_simp; try (with_reducible rfl))
              case hh9 => (go_simp; exact rfl)
              case zh9 =>
              refine wpAnyH_done (by kernel_rfl) ?_ _
              have H8 := hide (SB.out _ (by assumption))
              clear CS SK SB HU HXK
              go_wp2_with fail
              go_roundg (i - j - 1)
              case measure => omega
              case rel => exact ⟨j + 1, by omega, by first | rfl | simp, H8⟩
            · go_wp2_with fail
              go_roundg (N - i - 1)
              case measure => omega
              case rel => exact ⟨i + 1, by omega, by first | rfl | simp, HU⟩
        · have C1 := hide (HAE.out _ HU.out)
          clear HIT HAT HST HAE
          go_wp2_with fail
          rename_i kk
          refine C1.out.mono ?_
          rintro e w5 ⟨rfl, h5⟩
          refine kk _ _ ?_
          clear kk C1
          have H5 := hide (bel2 HU.out h5)
          clear h5
          go_wp2_with fail
          go_ret
          exact ⟨rfl, bel_alloc H5.out _⟩
    · obtain ⟨j, hj, rfl, hiff⟩ := hb1 hE
      have hne : (E != 0) = true := by simpa using hE
      have hjN : j < N := by rw [List.length_map, ← HN.out] at hj; exact hj
      have j0 : (0 : Int) ≤ (j : Int) := by omega
      clear hb0 hb1 HC1 hE hj
      by_cases hkj : k ≤ j
      · have hF := hiff.2 hkj
        subst hF
        clear hiff
        go_wp2_with fail
        go_ret
        exact ⟨rfl, H4.out⟩
      · have hF : (F == 0) = false := beq_eq_false_iff_ne.2 (fun e => hkj (hiff.1 e))
        clear hiff
        go_wp2_with fail
        go_ret
        exact ⟨rfl, H4.out⟩
end Go.Proofs.Ytlabdbkmlkmnkaa
