/-
  The law ChainGrows.
-/
import Derived.Test.YtlabdbkmlkmnkaaLC1
namespace Go.Proofs.Ytlabdbkmlkmnkaa
open Go.RowKit
open Utf1 Pol8

/-- What is held while policies are added one by one. -/
structure GrowI (ts : List It) (E : Int) (i : Nat) (us : List It) : Prop where
  z : E = 0 → us.map It.p = (ts.map It.p).take i ∧ ∀ j, j < i → wr (ts.map It.p) j = 0
  n : E ≠ 0 → ∃ k, i = k + 1 ∧ k < ts.length ∧ us.map It.p = (ts.map It.p).take k ∧ (∀ j, j < k → wr (ts.map It.p) j = 0) ∧ E = wr (ts.map It.p) k
theorem grow_step {ts us : List It} {i : Nat} {t : It} {E n : Int} (h : GrowI ts 0 i us) (ht : ts[i]? = some t) (hc : Chk (us.map It.p ++ [t.p]) E n) : (E = 0 → ∀ us', us'.map It.p = us.map It.p ++ [t.p] → GrowI ts 0 (i + 1) us') ∧ (E ≠ 0 → GrowI ts E (i + 1) us) := by
  obtain ⟨hm, hz⟩ := h.z rfl
  have hil := (List.getElem?_eq_some_iff.1 ht).1
  have htk : us.map It.p ++ [t.p] = (ts.map It.p).take (i + 1) := by
    rw [hm, List.take_add_one, List.getElem?_map, ht]
    rfl
  rw [htk] at hc
  constructor
  · intro e us' hu
    subst e
    refine ⟨fun _ => ⟨by rw [hu, htk], fun j hj => ?_⟩, fun h => absurd rfl h⟩
    have := (chk_zero hc).2 j
    rw [wr_take _ hj] at this
    exact this
  · intro hE
    refine ⟨fun e => absurd e hE, fun _ => ⟨i, rfl, hil, hm, hz, ?_⟩⟩
    obtain ⟨j, hj, -, he, -⟩ := chk_wrong hc hE
    have hj' : j < i + 1 := by
      rw [List.length_take] at hj
      omega
    rw [wr_take _ hj'] at he
    by_cases e : j = i
    · rw [e] at he
      exact he
    · exact absurd (he.trans (hz j (by omega))) hE
theorem grow_end {ts us : List It} {i : Nat} {E : Int} (h : GrowI ts E i us) (hi : E = 0 → i = ts.length) {G m : Int} (hc : Chk (ts.map It.p) G m) : G = E ∧ (E = 0 → us.map It.p = (ts.take ts.length).map It.p) ∧ (E ≠ 0 → ∃ k : Nat, m = (k : Int) ∧ k < ts.length ∧ us.map It.p = (ts.take k).map It.p) := by
  by_cases e : E = 0
  · obtain ⟨hm, hz⟩ := h.z e
    have hil := hi e
    have hg := chk_of_all hc (fun j hj => hz j (by rw [List.length_map] at hj; omega))
    refine ⟨by rw [hg.1, e], fun _ => ?_, fun h => absurd e h⟩
    rw [List.map_take, hm, hil]
  · obtain ⟨k, rfl, hk, hm, hz, hE⟩ := h.n e
    have hg := chk_of_first hc (i := k) (by rw [List.length_map]; exact hk) (by rw [← hE]; exact e) hz
    exact ⟨by rw [hg.1, hE], fun h => absurd h e, fun _ => ⟨k, hg.2, hk, by rw [List.map_take, hm]⟩⟩

set_option maxRecDepth 100000 in
set_option maxHeartbeats 16000000 in
theorem lawGrows_walk (hC : CheckC) (hA : AddC) (v : Value) (ts : List It) (w : World) (hv : PolRow w v ts) :
    Calls Try.prog 6 #[v] w fun e w' => e = .returned (.bool true) ∧ Below w.heap.size w w' := by
  have HV := hide hv
  have CW := hide (awake_any hC hA w)
  have CL : Hid (∀ wx, Below w.heap.size w wx → Calls Try.prog 9 #[v] wx fun e w' => (∃ b : Bool, e = .returned (.bool b) ∧ (b = true → ts.length ≤ 12 ∧ ∀ t ∈ ts, light t.p)) ∧ Below w.heap.size w w') := hide (fun wx h => (rlightl_any v ts wx (HV.out.below h)).mono fun e w' ⟨h1, h2⟩ => ⟨h1, bel2 h h2⟩)
  have CK : Hid (ts.length ≤ 12 → (∀ t ∈ ts, light t.p) → ∀ wx, Below w.heap.size w wx → Calls Try.prog 10 #[v] wx fun e w' => (∃ E n, e = .returned (.tuple #[.int .i64 E, .int .i64 n]) ∧ Chk (ts.map It.p) E n) ∧ Below wx.heap.size wx w') := hide (fun h1 h2 wx h => hC v ts wx (light_all h2) (by omega) (HV.out.below h))
  obtain ⟨p, cap, rfl, hcap, -, -⟩ := hv
  obtain ⟨N, hN⟩ : ∃ N, N = ts.length := ⟨_, rfl⟩
  have HA := hide hA
  have HN := hide hN
  rw [← hN] at CL CK hcap HV ⊢
  clear hC hA hN
  go_enter Try.func6, Try.ntmps6
  go_wp2_with fail
  refine CW.out.mono ?_
  rintro e w1 ⟨rfl, h1⟩
  have H1 := hide h1
  clear h1 CW
  go_wp2_with fail
  refine (CL.out _ H1.out).mono ?_
  rintro e w2 ⟨⟨b, rfl, hb⟩, h2⟩
  have H2 := hide h2
  have HB := hide hb
  clear h2 hb CL H1
  cases b with
  | false =>
    go_wp2_with fail
    go_ret
    exact ⟨rfl, H2.out⟩
  | true =>
    have K1 := hide (CK.out (HB.out rfl).1 (HB.out rfl).2)
    have HL := hide (light_all (HB.out rfl).2)
    have hN12 : N ≤ 12 := (HB.out rfl).1
    clear CK HB
    go_wp2_with fail
    go_loopg [5, 6, 7] N (fun g v5 v6 v7 wx => ∃ (i : Nat) (E : Int) (q : Option Addr) (m c : Nat) (us : List It), i + g = N ∧ v5 = .slice q m c ∧ v6 = .int .i64 E ∧ v7 = .int .i64 (i : Int) ∧ Hid (PolRow wx (.slice q m c) us ∧ GrowI ts E i us ∧ Below w.heap.size w wx))
    case atStart => exact ⟨0, 0, none, 0, 0, [], by omega, rfl, rfl, rfl, hide ⟨polRow_nil _, ⟨fun _ => ⟨rfl, fun j hj => by omega⟩, fun h => absurd rfl h⟩, H2.out⟩⟩
    case round =>
      obtain ⟨i, E, q, m, c, us, hi, rfl, rfl, rfl, HU⟩ := hrel
      clear H2
      by_cases hE : E = 0
      · subst hE
        by_cases hlt : i < N
        · obtain ⟨t, ht⟩ : ∃ t, ts[i]? = some t := ⟨_, List.getElem?_eq_getElem (by have := HN.out; omega)⟩
          obtain ⟨b, off, cp, e, -, hr, hk⟩ := (HV.out.below HU.out.2.2).at ht
          injection e with e1 e2 e3
          subst e1
          clear e2 e3
          have hfu : (∀ x ∈ us, fits x.p) ∧ us.length ≤ 1000 := by
            obtain ⟨hm, -⟩ := HU.out.2.1.z rfl
            refine ⟨fun x hx => ?_, ?_⟩
            · have h1 : x.p ∈ us.map It.p := List.mem_map_of_mem hx
              rw [hm] at h1
              obtain ⟨y, hy, e⟩ := List.mem_map.1 (List.mem_of_mem_take h1)
              rw [← e]
              exact HL.out y hy
            · have := congrArg List.length hm
              rw [List.length_map, List.length_take] at this
              omega
          have C1 := hide (HA.out (.slice q m c) us t wr hfu.1 (HL.out t (List.mem_of_getElem? ht)) hfu.2 HU.out.1 (hk i t ht))
          obtain ⟨y0, y1, y2, y3, y4, y5, y6, y7, y8⟩ := nine (hr i t ht)
          have HT := hide ht
          have HG := hide HU.out.2.1
          have HB := hide HU.out.2.2
          have HRO := hide HU.out.1
          clear ht hr hk hfu HU K1
          obtain ⟨P, v1, v2, v3, v4, v5, l1, l2, l3, l4, l5⟩ := t
          simp only [] at y0 y1 y2 y3 y4 y5 y6 y7 y8
          go_wp2_with fail
          refine C1.out.mono ?_
          rintro e w3 ⟨⟨E, n, u, rfl, hc, h0, h1⟩, h3⟩
          obtain ⟨hs0, hs1⟩ := grow_step HG.out HT.out hc
          have H3 := hide (bel2 HB.out h3)
          clear C1 y0 y1 y2 y3 y4 y5 y6 y7 y8
          by_cases hE : E = 0
          · subst hE
            obtain ⟨us', ho, hm⟩ := h0 rfl
            have HG' := hide (hs0 rfl us' hm)
            have HR' := hide ho.row
            obtain ⟨q', c', rfl, -⟩ := own_shape ho.o
            generalize us'.length = m' at HR' ho
            clear hs0 hs1 hc h0 h1 hm ho h3 HG HRO
            go_wp2_with fail
            go_roundg (N - i - 1)
            case measure => omega
            case rel => exact ⟨i + 1, 0, q', m', c', us', by omega, rfl, rfl, by first | rfl | simp, hide ⟨HR'.out, HG'.out, H3.out⟩⟩
          · have heq : (E == 0) = false := by simpa using hE
            have HG' := hide (hs1 hE)
            have HR' := hide (HRO.out.below h3)
            have hu := h1 hE
            subst hu
            clear hs0 hs1 hc h0 h1 h3 HG HRO hE
            go_wp2_with fail
            go_roundg (N - i - 1)
            case measure => omega
            case rel => exact ⟨i + 1, E, q, m, c, us, by omega, rfl, rfl, by first | rfl | simp, hide ⟨HR'.out, HG'.out, H3.out⟩⟩
        · have HEN : Hid (i = ts.length) := hide (by have := HN.out; omega)
          have HG := hide HU.out.2.1
          have HRO := hide HU.out.1
          have HB := hide HU.out.2.2
          clear HU
          go_wp2_with fail
          refine (K1.out _ HB.out).mono ?_
          rintro e w3 ⟨⟨G, n, rfl, hc⟩, h3⟩
          obtain ⟨rfl, hm, -⟩ := grow_end HG.out (fun _ => HEN.out) hc
          have H3 := hide (bel2 HB.out h3)
          have HS := hide (rsamel_any (.slice q m c) (.slice p ts.length cap) us (ts.take ts.length) (hm rfl) (fun x hx => by
            have h1 : x.p ∈ us.map It.p := List.mem_map_of_mem hx
            rw [hm rfl] at h1
            obtain ⟨y, hy, e⟩ := List.mem_map.1 h1
            rw [← e]
            exact HL.out y (List.mem_of_mem_take hy)) (by
            have := congrArg List.length (hm rfl)
            rw [List.length_map, List.length_map, List.length_take] at this
            have := HN.out
            omega) w3 (HRO.out.below h3) ((HV.out.below H3.out).take (Nat.le_refl _)))
          rw [← HN.out] at HS
          clear K1 h3 hc hm HRO HG HL HA HEN
          have b0 : (0 : Int) ≤ (N : Int) := by omega
          have b1 : (N : Int) ≤ (cap : Int) := by omega
          go_wp2_with fail
          refine HS.out.mono ?_
          rintro e w4 ⟨rfl, h4⟩
          have H4 := hide (bel2 H3.out h4)
          clear h4 HS
          go_wp2_with fail
          go_ret
          exact ⟨rfl, H4.out⟩
      · have heq : (E == 0) = false := by simpa using hE
        have HE := hide hE
        have HG := hide HU.out.2.1
        have HRO := hide HU.out.1
        have HB := hide HU.out.2.2
        clear HU hE
        go_wp2_with fail
        all_goals
          refine (K1.out _ HB.out).mono ?_
          rintro e w3 ⟨⟨G, n, rfl, hc⟩, h3⟩
          obtain ⟨rfl, -, hm⟩ := grow_end HG.out (fun e => absurd e HE.out) hc
          obtain ⟨k, rfl, hk, hm⟩ := hm HE.out
          have H3 := hide (bel2 HB.out h3)
          have hkN : k < N := by have := HN.out; omega
          have HS := hide (rsamel_any (.slice q m c) (.slice p k cap) us (ts.take k) hm (fun x hx => by
            have h1 : x.p ∈ us.map It.p := List.mem_map_of_mem hx
            rw [hm] at h1
            obtain ⟨y, hy, e⟩ := List.mem_map.1 h1
            rw [← e]
            exact HL.out y (List.mem_of_mem_take hy)) (by
            have := congrArg List.length hm
            rw [List.length_map, List.length_map, List.length_take] at this
            omega) w3 (HRO.out.below h3) ((HV.out.below H3.out).take (by omega)))
          clear K1 h3 hc hm HRO HG HL HA HE hk
          have b0 : (0 : Int) ≤ (k : Int) := by omega
          have b1 : (k : Int) ≤ (cap : Int) := by omega
          go_wp2_with fail
          refine HS.out.mono ?_
          rintro e w4 ⟨rfl, h4⟩
          have H4 := hide (bel2 H3.out h4)
          clear h4 HS
          go_wp2_with fail
          go_ret
          exact ⟨rfl, H4.out⟩
end Go.Proofs.Ytlabdbkmlkmnkaa
