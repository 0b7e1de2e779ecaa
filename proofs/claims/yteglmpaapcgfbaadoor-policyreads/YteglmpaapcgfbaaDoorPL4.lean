/-
  The law PolicyReads, over what is asked of the document's own Read.
-/
import Derived.Test.YteglmpaapcgfbaaDoorPL3
namespace Go.Proofs.YteglmpaapcgfbaaDoor
open Go.RowKit
open Utf1 Pol8

/-- What the document's own Read gives. -/
def RReadC : Prop := ∀ (s : ByteArray) (w : World), s.size ≤ 4000 → Glob w →
  Calls Tryd.prog 16 #[.string s] w fun e w' => (∃ v1 v2 v3 v4 v5 l1 l2 l3 l4 l5, e = .returned (.tuple #[pval ((readP (bl s)).getD Pol.zero) v1 v2 v3 v4 v5, .int .i64 (if (readP (bl s)).isSome = true then 0 else 2)]) ∧ PolV w' v1 v2 v3 v4 v5 ((readP (bl s)).getD Pol.zero) l1 l2 l3 l4 l5) ∧ Below w.heap.size w w'
/-- What is read, by its shape. -/
theorem read_shape {F : Nat} {s : ByteArray} {w : World} (h : Calls Tryd.prog F #[.string s] w fun e w' => (∃ v1 v2 v3 v4 v5 l1 l2 l3 l4 l5, e = .returned (.tuple #[pval ((readP (bl s)).getD Pol.zero) v1 v2 v3 v4 v5, .int .i64 (if (readP (bl s)).isSome = true then 0 else 2)]) ∧ PolV w' v1 v2 v3 v4 v5 ((readP (bl s)).getD Pol.zero) l1 l2 l3 l4 l5) ∧ Below w.heap.size w w') (Q : Pol) (hQ : Q = (readP (bl s)).getD Pol.zero) (E : Int) (hE : E = if (readP (bl s)).isSome = true then 0 else 2) :
    Calls Tryd.prog F #[.string s] w fun e w' => (∃ (p1 : Option Addr) (n1 c1 : Nat) (p2 : Option Addr) (n2 c2 : Nat) (p3 : Option Addr) (n3 c3 : Nat) (p4 : Option Addr) (n4 c4 : Nat) (p5 : Option Addr) (n5 c5 : Nat) (m1 m2 m3 m4 m5 : List ByteArray), e = .returned (.tuple #[.agg #[.int .i64 Q.ep, .slice p1 n1 c1, .slice p2 n2 c2, .slice p3 n3 c3, .slice p4 n4 c4, .slice p5 n5 c5, .int .i64 Q.dp, .int .i64 Q.nd, .int .i64 Q.bt], .int .i64 E]) ∧ PolV w' (.slice p1 n1 c1) (.slice p2 n2 c2) (.slice p3 n3 c3) (.slice p4 n4 c4) (.slice p5 n5 c5) Q m1 m2 m3 m4 m5) ∧ Below w.heap.size w w' := by
  subst hQ hE
  refine h.mono ?_
  rintro e w' ⟨⟨v1, v2, v3, v4, v5, m1, m2, m3, m4, m5, rfl, hu⟩, hb⟩
  refine ⟨?_, hb⟩
  obtain ⟨p1, c1, rfl, -, -⟩ := id hu.s1
  obtain ⟨p2, c2, rfl, -, -⟩ := id hu.s2
  obtain ⟨p3, c3, rfl, -, -⟩ := id hu.s3
  obtain ⟨p4, c4, rfl, -, -⟩ := id hu.s4
  obtain ⟨p5, c5, rfl, -, -⟩ := id hu.s5
  exact ⟨p1, m1.length, c1, p2, m2.length, c2, p3, m3.length, c3, p4, m4.length, c4, p5, m5.length, c5, m1, m2, m3, m4, m5, rfl, hu⟩

set_option maxRecDepth 100000 in
set_option maxHeartbeats 32000000 in
theorem lawReads_walk (hT : TextC) (hR : RightC) (hA : AttrC) (hD : ReadC) (hX : RReadC) (s : ByteArray) (w : World) (hg : Glob w) (hge : GlobE w) :
    Calls Tryd.prog 4 #[.string s] w fun e w' => e = .returned (.bool true) ∧ Below w.heap.size w w' := by
  have CW := hide (awake_any hT hR hA w hg)
  have HG := hide hg
  have HGE := hide hge
  obtain ⟨Q, hQ⟩ : ∃ Q, Q = (readP (bl s)).getD Pol.zero := ⟨_, rfl⟩
  obtain ⟨E, hE⟩ : ∃ E : Int, E = if (readP (bl s)).isSome = true then 0 else 2 := ⟨_, rfl⟩
  have HF : Hid (s.size ≤ 4000 → fits Q) := hide (fun hs => by rw [hQ]; exact read_fits (bl s) (by rw [bl_len]; omega))
  have C1 := hide (fun (hs : s.size ≤ 4000) wx (hx : Below w.heap.size w wx) => read_shape (hD s wx (by omega) (HG.out.below hx) (HGE.out.below hx)) Q hQ E hE)
  have C2 := hide (fun (hs : s.size ≤ 4000) wx (hx : Below w.heap.size w wx) => read_shape (hX s wx hs (HG.out.below hx)) Q hQ E hE)
  have q3 : (E == E) = true := by simp
  clear hT hR hA hD hX hQ hE hg hge
  go_enter Tryd.func4, Tryd.ntmps4
  go_wp2_with fail
  refine CW.out.mono ?_
  rintro e w2 ⟨rfl, h2⟩
  have H2 := hide h2
  clear h2 CW
  by_cases hs : s.size ≤ 4000
  · go_wp2_with fail
    refine (C1.out hs w2 H2.out).mono ?_
    rintro e w3 ⟨⟨p1, n1, c1, p2, n2, c2, p3, n3, c3, p4, n4, c4, p5, n5, c5, m1, m2, m3, m4, m5, rfl, hu⟩, hb3⟩
    have H3 := hide (bel2 H2.out hb3)
    obtain ⟨w4, hw4⟩ : ∃ w4, w4 = w3.alloc (.cells #[.int .i64 Q.ep, .slice p1 n1 c1, .slice p2 n2 c2, .slice p3 n3 c3, .slice p4 n4 c4, .slice p5 n5 c5, .int .i64 Q.dp, .int .i64 Q.nd, .int .i64 Q.bt] 24) := ⟨_, rfl⟩
    have K4 : Hid (w4.heap[w3.heap.size]? = some (.cells #[.int .i64 Q.ep, .slice p1 n1 c1, .slice p2 n2 c2, .slice p3 n3 c3, .slice p4 n4 c4, .slice p5 n5 c5, .int .i64 Q.dp, .int .i64 Q.nd, .int .i64 Q.bt] 24 (0, 0))) := hide (by rw [hw4]; exact new_block _ _ _)
    have B4 : Hid (Below w3.heap.size w3 w4) := hide (by rw [hw4]; exact bel_alloc (Below.refl _ _) _)
    have HU := hide (hu.below B4.out)
    have H4 := hide (bel2 H3.out B4.out)
    clear hu hb3 H2 H3
    go_upto_region 5 with fail
    rw [← hw4]
    clear hw4 B4 C1
    generalize w3.heap.size = N4 at K4 ⊢
    go_wp2_with fail
    refine (C2.out hs w4 H4.out).mono ?_
    rintro e w5 ⟨⟨a1, b1, d1, a2, b2, d2, a3, b3, d3, a4, b4, d4, a5, b5, d5, k1, k2, k3, k4, k5, rfl, hr⟩, hb5⟩
    have H5 := hide (bel2 H4.out hb5)
    obtain ⟨w6, hw6⟩ : ∃ w6, w6 = w5.alloc (.cells #[.int .i64 Q.ep, .slice a1 b1 d1, .slice a2 b2 d2, .slice a3 b3 d3, .slice a4 b4 d4, .slice a5 b5 d5, .int .i64 Q.dp, .int .i64 Q.nd, .int .i64 Q.bt] 24) := ⟨_, rfl⟩
    have K6 : Hid (w6.heap[w5.heap.size]? = some (.cells #[.int .i64 Q.ep, .slice a1 b1 d1, .slice a2 b2 d2, .slice a3 b3 d3, .slice a4 b4 d4, .slice a5 b5 d5, .int .i64 Q.dp, .int .i64 Q.nd, .int .i64 Q.bt] 24 (0, 0))) := hide (by rw [hw6]; exact new_block _ _ _)
    have B6 : Hid (Below w5.heap.size w5 w6) := hide (by rw [hw6]; exact bel_alloc (Below.refl _ _) _)
    have J6 : Hid (w6.heap[N4]? = some (.cells #[.int .i64 Q.ep, .slice p1 n1 c1, .slice p2 n2 c2, .slice p3 n3 c3, .slice p4 n4 c4, .slice p5 n5 c5, .int .i64 Q.dp, .int .i64 Q.nd, .int .i64 Q.bt] 24 (0, 0))) := hide (((bel2 hb5 B6.out).block _ (Array.getElem?_eq_some_iff.1 K4.out).1).trans K4.out)
    have HU6 := hide (HU.out.below (bel2 hb5 B6.out))
    have HR6 := hide (hr.below B6.out)
    have H6 := hide (bel2 H5.out B6.out)
    clear hr hb5 H4 H5 HU K4
    go_upto_region 6 with fail
    rw [← hw6]
    clear hw6 B6 C2
    generalize w5.heap.size = N6 at K6 ⊢
    have y0 := tag_cell J6.out 0 _ rfl
    have y1 := tag_cell J6.out 1 _ rfl
    have y2 := tag_cell J6.out 2 _ rfl
    have y3 := tag_cell J6.out 3 _ rfl
    have y4 := tag_cell J6.out 4 _ rfl
    have y5 := tag_cell J6.out 5 _ rfl
    have y6 := tag_cell J6.out 6 _ rfl
    have y7 := tag_cell J6.out 7 _ rfl
    have y8 := tag_cell J6.out 8 _ rfl
    have z0 := tag_cell K6.out 0 _ rfl
    have z1 := tag_cell K6.out 1 _ rfl
    have z2 := tag_cell K6.out 2 _ rfl
    have z3 := tag_cell K6.out 3 _ rfl
    have z4 := tag_cell K6.out 4 _ rfl
    have z5 := tag_cell K6.out 5 _ rfl
    have z6 := tag_cell K6.out 6 _ rfl
    have z7 := tag_cell K6.out 7 _ rfl
    have z8 := tag_cell K6.out 8 _ rfl
    go_wp2_with fail
    refine (rsameP_any _ _ _ _ _ _ _ _ _ _ Q Q m1 m2 m3 m4 m5 k1 k2 k3 k4 k5 _ HU6.out HR6.out (HF.out hs) (HF.out hs)).mono ?_
    rw [(sameP_iff Q Q).2 rfl]
    rintro e w7 ⟨rfl, hb7⟩
    have H7 := hide (bel2 H6.out hb7)
    clear hb7 y0 y1 y2 y3 y4 y5 y6 y7 y8 z0 z1 z2 z3 z4 z5 z6 z7 z8
    go_wp2_with fail
    go_ret
    exact ⟨rfl, H7.out⟩
  · go_wp2_with fail
    go_ret
    exact ⟨rfl, H2.out⟩
end Go.Proofs.YteglmpaapcgfbaaDoor
