/-
  The program's own Read.
-/
import Derived.Test.YtmogplecohkjcaaGreatDoorRY
import Derived.Test.YtmogplecohkjcaaGreatDoorR10
namespace Pol8
theorem cut_fits (k s : L) (hs : s.length ≤ 99999) : (cutN 65 k s).1.length ≤ 100000 ∧ (∀ x ∈ (cutN 65 k s).1, x.length ≤ 100000) ∧ (cutN 65 k s).2.length ≤ 99999 := by
  obtain ⟨h1, h2, h3⟩ := cutN_len 65 k s
  exact ⟨by omega, fun x hx => by have := h2 x hx; omega, by omega⟩
end Pol8
namespace Go.Proofs.YtmogplecohkjcaaGreatDoor
open Go.RowKit
open Utf1 Pol8

theorem readL_fits (s : L) (hs : s.length ≤ 99999) : fits (readL s) := by
  have h0 := (restOf_len kEpoch s).1
  obtain ⟨a1, a2, a3⟩ := cut_fits kElem (restOf kEpoch s) (by omega)
  obtain ⟨b1, b2, b3⟩ := cut_fits kAttr _ a3
  obtain ⟨c1, c2, c3⟩ := cut_fits kScheme _ b3
  obtain ⟨d1, d2, d3⟩ := cut_fits kClass _ c3
  obtain ⟨e1, e2, e3⟩ := cut_fits kProp _ d3
  intro l hl
  simp only [List.mem_cons, List.not_mem_nil, or_false] at hl
  rcases hl with rfl | rfl | rfl | rfl | rfl
  · exact ⟨a1, a2⟩
  · exact ⟨b1, b2⟩
  · exact ⟨c1, c2⟩
  · exact ⟨d1, d2⟩
  · exact ⟨e1, e2⟩
theorem nbV_of {w : World} {p : Option Addr} {n c B : Nat} (h : NB w p) (hB : B ≤ w.heap.size) : NbV B (.slice p n c) := fun b off _ _ e => by
  injection e with e1 e2 e3
  have := h b off e1
  omega
theorem below_row {B : Nat} {a w : World} (h : Below B a w) {g : Nat} (hg : B ≤ g) (cs : Array Value) : Below B a (w.setRow g cs) :=
  ⟨h.os, h.tape, h.output, by rw [size_setRow]; exact h.size, fun k hk => (setRow_other w g k cs (by omega)).trans (h.block k hk)⟩
theorem strArg_row_off {w : World} {p : Option Addr} {n c : Nat} {ss : List ByteArray} {g : Nat} (h : StrArg w (.slice p n c) ss) (hb : ∀ b off, p = some ⟨b, off, none⟩ → b ≠ g) (cs : Array Value) : StrArg (w.setRow g cs) (.slice p n c) ss := by
  obtain ⟨p', cap, e, h0, hc⟩ := h
  injection e with e1 e2 e3
  subst e1 e2 e3
  refine ⟨p, c, rfl, h0, fun i s hi => ?_⟩
  obtain ⟨b, off, hp, hcell⟩ := hc i s hi
  refine ⟨b, off, hp, ?_⟩
  unfold World.cell? at hcell ⊢
  rw [setRow_other _ _ _ _ (hb b off hp)]
  exact hcell
theorem results_row_tmp {P : Program} {fn : Func} {p u : Tmp} {ty : TypeId} (h : fn.results = #[.cell p ty, .tmp u]) (tmps : Array Value) (w : World) (g : Nat) (t : TypeId) (cs : Array Value) (fr : Nat × Nat) (d : TypeDesc)
    (hp : tmps.getD p undef = .pointer (some ⟨g, 0, none⟩)) (hg : w.heap[g]? = some (.cells cs t fr))
    (hu : P.underlying ty = some d) (hd : (match d with | .struct _ | .array _ _ => true | _ => false) = true) (hi : (P.info? ty).map (·.size) = some cs.size) :
    (results fn tmps).run P w = .ok (.tuple #[.agg cs, tmps.getD u undef]) w := by
  rw [results_cell_tmp h, hp]
  simp [asAddr, Result.andThen, run_loadVar_row w g t ty cs fr d hg hu hd hi]

set_option maxRecDepth 100000 in
set_option maxHeartbeats 32000000 in
theorem pread_any : ReadC := by
  intro s w hs hg hge
  obtain ⟨E0, hE0⟩ : ∃ E0 : Int, E0 = if (readP (bl s)).isSome = true then 0 else 2 := ⟨_, rfl⟩
  obtain ⟨P0, hP0⟩ : ∃ P0, P0 = (readP (bl s)).getD Pol.zero := ⟨_, rfl⟩
  rw [← hE0, ← hP0]
  have HE0 := hide hE0
  have HP0 := hide hP0
  clear hE0 hP0
  have HG := hide hg
  obtain ⟨Q, hQ⟩ : ∃ Q, Q = readL (bl s) := ⟨_, rfl⟩
  have hfq : fits Q := by rw [hQ]; exact readL_fits _ (by rw [bl_len]; exact hs)
  have HP : Hid (readP (bl s) = if right Q = true ∧ text Q = bl s then some Q else none) := hide (by rw [hQ]; exact readP_is _)
  obtain ⟨w1, hw1⟩ : ∃ w1, w1 = w.alloc (.cells #[.int .i64 0, .slice none 0 0, .slice none 0 0, .slice none 0 0, .slice none 0 0, .slice none 0 0, .int .i64 0, .int .i64 0, .int .i64 0] 33) := ⟨_, rfl⟩
  have K1 : Hid (w1.heap[w.heap.size]? = some (.cells #[.int .i64 0, .slice none 0 0, .slice none 0 0, .slice none 0 0, .slice none 0 0, .slice none 0 0, .int .i64 0, .int .i64 0, .int .i64 0] 33 (0, 0))) := hide (by rw [hw1]; exact new_block _ _ _)
  have B1 : Hid (Below w.heap.size w w1) := hide (by rw [hw1]; exact bel_alloc (Below.refl _ _) _)
  have HSZ1 : Hid (w1.heap.size = w.heap.size + 1) := hide (by rw [hw1]; simp)
  have C1 := hide (preadL_any s hs w1 (hg.below B1.out) (hge.below B1.out))
  rw [← hQ] at C1
  have HFQ := hide hfq
  clear hQ hfq hg hge
  go_enter Tryz.func81, Tryz.ntmps81
  go_upto_region 1 with fail
  rw [← hw1]
  clear hw1
  go_wp2_with fail
  refine C1.out.mono ?_
  rintro e w2 ⟨⟨p1, p2, p3, p4, p5, c1, c2, c3, c4, c5, l1, l2, l3, l4, l5, rfl, hpv, hn1, hn2, hn3, hn4, hn5⟩, hb2⟩
  have K2 := hide ((hb2.block _ (Array.getElem?_eq_some_iff.1 K1.out).1).trans K1.out)
  have B2 := hide (bel2 B1.out hb2)
  have HNB := hide (And.intro hn1 (And.intro hn2 (And.intro hn3 (And.intro hn4 hn5))))
  obtain ⟨w3, hw3⟩ : ∃ w3, w3 = w2.alloc (.cells #[.int .i64 Q.ep, .slice p1 (List.length l1) c1, .slice p2 (List.length l2) c2, .slice p3 (List.length l3) c3, .slice p4 (List.length l4) c4, .slice p5 (List.length l5) c5, .int .i64 Q.dp, .int .i64 Q.nd, .int .i64 Q.bt] 33) := ⟨_, rfl⟩
  obtain ⟨N, hN⟩ : ∃ N, N = w2.heap.size := ⟨_, rfl⟩
  have b23 : Below w2.heap.size w2 w3 := by rw [hw3]; exact bel_alloc (Below.refl _ _) _
  have HV3 := hide (hpv.below b23)
  have K3 := hide ((b23.block _ (Array.getElem?_eq_some_iff.1 K2.out).1).trans K2.out)
  have B3 := hide (bel2 B2.out b23)
  have KN3 : Hid (w3.heap[N]? = some (.cells #[.int .i64 Q.ep, .slice p1 (List.length l1) c1, .slice p2 (List.length l2) c2, .slice p3 (List.length l3) c3, .slice p4 (List.length l4) c4, .slice p5 (List.length l5) c5, .int .i64 Q.dp, .int .i64 Q.nd, .int .i64 Q.bt] 33 (0, 0))) := hide (by rw [hN, hw3]; exact new_block _ _ _)
  clear hpv hn1 hn2 hn3 hn4 hn5 hb2 b23 C1 K1 B1 K2 B2
  go_upto_region 2 with fail
  rw [← hw3, ← hN]
  clear hw3 hN
  have C2 := hide (ptext_any _ _ _ _ _ Q _ _ _ _ _ w3 HV3.out HFQ.out)
  have k0 := tag_cell KN3.out 0 _ rfl
  have k1 := tag_cell KN3.out 1 _ rfl
  have k2 := tag_cell KN3.out 2 _ rfl
  have k3 := tag_cell KN3.out 3 _ rfl
  have k4 := tag_cell KN3.out 4 _ rfl
  have k5 := tag_cell KN3.out 5 _ rfl
  have k6 := tag_cell KN3.out 6 _ rfl
  have k7 := tag_cell KN3.out 7 _ rfl
  have k8 := tag_cell KN3.out 8 _ rfl
  go_wp2_with fail
  refine C2.out.mono ?_
  rintro e w4 ⟨rfl, hb4⟩
  have HV4 := hide (HV3.out.below hb4)
  have K4 := hide ((hb4.block _ (Array.getElem?_eq_some_iff.1 K3.out).1).trans K3.out)
  have B4 := hide (bel2 B3.out hb4)
  have KN4 := hide ((hb4.block _ (Array.getElem?_eq_some_iff.1 KN3.out).1).trans KN3.out)
  clear hb4 C2 HV3 K3 B3 KN3 k0 k1 k2 k3 k4 k5 k6 k7 k8
  cases hr : right Q with
  | false =>
    have HN : Hid (readP (bl s) = none) := hide (by rw [HP.out, if_neg (by rw [hr]; intro h; cases h.1)])
    clear hr HP HFQ HV4 KN4 HNB HSZ1
    go_upto_region 4 with fail
    go_step
    go_step
    rename_i kk
    go_simp
    refine kk _ _ ?_
    clear kk
    refine wpList_store_row rfl 33 _ _ rfl w.heap.size #[.int .i64 0, .slice none 0 0, .slice none 0 0, .slice none 0 0, .slice none 0 0, .slice none 0 0, .int .i64 0, .int .i64 0, .int .i64 0] rfl rfl 33 _ K4.out (by kernel_rfl) rfl (by simp [Value.oneCell']) ?_
    obtain ⟨w5, hw5⟩ : ∃ w5, w5 = w4.setRow w.heap.size #[.int .i64 0, .slice none 0 0, .slice none 0 0, .slice none 0 0, .slice none 0 0, .slice none 0 0, .int .i64 0, .int .i64 0, .int .i64 0] := ⟨_, rfl⟩
    have K5 : Hid (w5.heap[w.heap.size]? = some (.cells #[.int .i64 0, .slice none 0 0, .slice none 0 0, .slice none 0 0, .slice none 0 0, .slice none 0 0, .int .i64 0, .int .i64 0, .int .i64 0] 33 (0, 0))) := hide (by rw [hw5]; exact setRow_heap _ _ _ _ _ _ K4.out)
    have B5 : Hid (Below w.heap.size w w5) := hide (by rw [hw5]; exact below_row B4.out (Nat.le_refl _) _)
    rw [← hw5]
    clear hw5 K4 B4
    go_wp2_with fail
    refine bodyPost_ret (results_row_tmp rfl _ _ w.heap.size 33 #[.int .i64 0, .slice none 0 0, .slice none 0 0, .slice none 0 0, .slice none 0 0, .slice none 0 0, .int .i64 0, .int .i64 0, .int .i64 0] (0, 0) _ rfl K5.out Tryz.underlying33 rfl (by kernel_rfl)) rfl ?_
    have e0 : E0 = 2 := by rw [HE0.out, HN.out]; rfl
    have e1 : P0 = Pol.zero := by rw [HP0.out, HN.out]; rfl
    rw [e0, e1]
    exact ⟨⟨.slice none 0 0, .slice none 0 0, .slice none 0 0, .slice none 0 0, .slice none 0 0, [], [], [], [], [], rfl, ⟨strArg_nil _, strArg_nil _, strArg_nil _, strArg_nil _, strArg_nil _, rfl, rfl, rfl, rfl, rfl, HG.out.below B5.out⟩, Nb5.nil _⟩, B5.out⟩
  | true =>
    by_cases htx : text Q = bl s
    · have HN : Hid (readP (bl s) = some Q) := hide (by rw [HP.out, if_pos ⟨hr, htx⟩])
      have hts : (⟨(text Q).toArray⟩ : ByteArray) = s := by rw [htx]
      have q1 : (s.toList == s.toList) = true := beq_same rfl
      have q2 : (s.toList != s.toList) = false := by simp
      rw [if_pos rfl, if_pos rfl, hts]
      clear hr HP HFQ htx hts
      go_upto_region 5 with fail
      go_step
      refine wpList_load_row rfl 33 _ rfl N rfl 33 #[.int .i64 Q.ep, .slice p1 (List.length l1) c1, .slice p2 (List.length l2) c2, .slice p3 (List.length l3) c3, .slice p4 (List.length l4) c4, .slice p5 (List.length l5) c5, .int .i64 Q.dp, .int .i64 Q.nd, .int .i64 Q.bt] (0, 0) _ KN4.out Tryz.underlying33 rfl (by kernel_rfl) ?_
      refine wpList_store_row rfl 33 _ _ rfl w.heap.size #[.int .i64 Q.ep, .slice p1 (List.length l1) c1, .slice p2 (List.length l2) c2, .slice p3 (List.length l3) c3, .slice p4 (List.length l4) c4, .slice p5 (List.length l5) c5, .int .i64 Q.dp, .int .i64 Q.nd, .int .i64 Q.bt] rfl rfl 33 _ K4.out (by kernel_rfl) rfl (by simp [Value.oneCell']) ?_
      obtain ⟨w5, hw5⟩ : ∃ w5, w5 = w4.setRow w.heap.size #[.int .i64 Q.ep, .slice p1 (List.length l1) c1, .slice p2 (List.length l2) c2, .slice p3 (List.length l3) c3, .slice p4 (List.length l4) c4, .slice p5 (List.length l5) c5, .int .i64 Q.dp, .int .i64 Q.nd, .int .i64 Q.bt] := ⟨_, rfl⟩
      have K5 : Hid (w5.heap[w.heap.size]? = some (.cells #[.int .i64 Q.ep, .slice p1 (List.length l1) c1, .slice p2 (List.length l2) c2, .slice p3 (List.length l3) c3, .slice p4 (List.length l4) c4, .slice p5 (List.length l5) c5, .int .i64 Q.dp, .int .i64 Q.nd, .int .i64 Q.bt] 33 (0, 0))) := hide (by rw [hw5]; exact setRow_heap _ _ _ _ _ _ K4.out)
      have B5 : Hid (Below w.heap.size w w5) := hide (by rw [hw5]; exact below_row B4.out (Nat.le_refl _) _)
      have HV5 : Hid (PolV w5 (.slice p1 l1.length c1) (.slice p2 l2.length c2) (.slice p3 l3.length c3) (.slice p4 l4.length c4) (.slice p5 l5.length c5) Q l1 l2 l3 l4 l5) := hide (by
        have h := HV4.out
        have hz := HSZ1.out
        have nb := HNB.out
        rw [hw5]
        exact ⟨strArg_row_off h.s1 (fun b off e => by have := nb.1 b off e; omega) _, strArg_row_off h.s2 (fun b off e => by have := nb.2.1 b off e; omega) _, strArg_row_off h.s3 (fun b off e => by have := nb.2.2.1 b off e; omega) _, strArg_row_off h.s4 (fun b off e => by have := nb.2.2.2.1 b off e; omega) _, strArg_row_off h.s5 (fun b off e => by have := nb.2.2.2.2 b off e; omega) _, h.e1, h.e2, h.e3, h.e4, h.e5, HG.out.below (by rw [← hw5]; exact B5.out)⟩)
      have HN5 : Hid (Nb5 w.heap.size (.slice p1 l1.length c1) (.slice p2 l2.length c2) (.slice p3 l3.length c3) (.slice p4 l4.length c4) (.slice p5 l5.length c5)) := hide (by
        have hz := HSZ1.out
        have nb := HNB.out
        exact ⟨nbV_of nb.1 (by omega), nbV_of nb.2.1 (by omega), nbV_of nb.2.2.1 (by omega), nbV_of nb.2.2.2.1 (by omega), nbV_of nb.2.2.2.2 (by omega)⟩)
      rw [← hw5]
      clear hw5 K4 B4 HV4 KN4 HNB HSZ1
      go_wp2_with fail
      refine bodyPost_ret (results_row_tmp rfl _ _ w.heap.size 33 #[.int .i64 Q.ep, .slice p1 (List.length l1) c1, .slice p2 (List.length l2) c2, .slice p3 (List.length l3) c3, .slice p4 (List.length l4) c4, .slice p5 (List.length l5) c5, .int .i64 Q.dp, .int .i64 Q.nd, .int .i64 Q.bt] (0, 0) _ rfl K5.out Tryz.underlying33 rfl (by kernel_rfl)) rfl ?_
      have e0 : E0 = 0 := by rw [HE0.out, HN.out]; rfl
      have e1 : P0 = Q := by rw [HP0.out, HN.out]; rfl
      rw [e0, e1]
      exact ⟨⟨_, _, _, _, _, l1, l2, l3, l4, l5, rfl, HV5.out, HN5.out⟩, B5.out⟩
    · have HN : Hid (readP (bl s) = none) := hide (by rw [HP.out, if_neg (fun h => htx h.2)])
      obtain ⟨TX, hTX⟩ : ∃ TX : ByteArray, TX = ⟨(text Q).toArray⟩ := ⟨_, rfl⟩
      have q1 : (TX.toList == s.toList) = false := beq_ne (by rw [hTX]; exact htx)
      have q2 : (TX.toList != s.toList) = true := by rw [bne, q1]; rfl
      rw [if_pos rfl, if_pos rfl, ← hTX]
      clear hr HP HFQ htx hTX HV4 KN4 HNB HSZ1
      go_upto_region 4 with fail
      go_step
      go_step
      rename_i kk
      go_simp
      refine kk _ _ ?_
      clear kk
      refine wpList_store_row rfl 33 _ _ rfl w.heap.size #[.int .i64 0, .slice none 0 0, .slice none 0 0, .slice none 0 0, .slice none 0 0, .slice none 0 0, .int .i64 0, .int .i64 0, .int .i64 0] rfl rfl 33 _ K4.out (by kernel_rfl) rfl (by simp [Value.oneCell']) ?_
      obtain ⟨w5, hw5⟩ : ∃ w5, w5 = w4.setRow w.heap.size #[.int .i64 0, .slice none 0 0, .slice none 0 0, .slice none 0 0, .slice none 0 0, .slice none 0 0, .int .i64 0, .int .i64 0, .int .i64 0] := ⟨_, rfl⟩
      have K5 : Hid (w5.heap[w.heap.size]? = some (.cells #[.int .i64 0, .slice none 0 0, .slice none 0 0, .slice none 0 0, .slice none 0 0, .slice none 0 0, .int .i64 0, .int .i64 0, .int .i64 0] 33 (0, 0))) := hide (by rw [hw5]; exact setRow_heap _ _ _ _ _ _ K4.out)
      have B5 : Hid (Below w.heap.size w w5) := hide (by rw [hw5]; exact below_row B4.out (Nat.le_refl _) _)
      rw [← hw5]
      clear hw5 K4 B4
      go_wp2_with fail
      refine bodyPost_ret (results_row_tmp rfl _ _ w.heap.size 33 #[.int .i64 0, .slice none 0 0, .slice none 0 0, .slice none 0 0, .slice none 0 0, .slice none 0 0, .int .i64 0, .int .i64 0, .int .i64 0] (0, 0) _ rfl K5.out Tryz.underlying33 rfl (by kernel_rfl)) rfl ?_
      have e0 : E0 = 2 := by rw [HE0.out, HN.out]; rfl
      have e1 : P0 = Pol.zero := by rw [HP0.out, HN.out]; rfl
      rw [e0, e1]
      exact ⟨⟨.slice none 0 0, .slice none 0 0, .slice none 0 0, .slice none 0 0, .slice none 0 0, [], [], [], [], [], rfl, ⟨strArg_nil _, strArg_nil _, strArg_nil _, strArg_nil _, strArg_nil _, rfl, rfl, rfl, rfl, rfl, HG.out.below B5.out⟩, Nb5.nil _⟩, B5.out⟩
end Go.Proofs.YtmogplecohkjcaaGreatDoor
