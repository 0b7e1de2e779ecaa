/-
  The law SafeLinks.
-/
import Derived.Test.YtbcadeikdmlpoaaDoorSLX
import Derived.Test.YtbcadeikdmlpoaaDoorUX
namespace Go.Proofs.YtbcadeikdmlpoaaDoor
open Go.RowKit
open Utf1 Pol8

def httpsL : L := [104, 116, 116, 112, 115]
theorem v_href (h : L) : Saf.valueB awP [97] Saf.href h = allowed h [httpsL] := by kernel_rfl
theorem v_rel (r : L) : Saf.valueB awP [97] Saf.relN r = decide (r = Saf.forced) := by kernel_rfl
theorem st_two (h r : L) : stable [.mk [97] [(Saf.href, h), (Saf.relN, r)] [] []] = true := by kernel_rfl
theorem st_owt (h r : L) : stable [.mk [97] [(Saf.relN, r), (Saf.href, h)] [] []] = true := by kernel_rfl
theorem link_safe (h r : L) : Saf.safeB awP [.mk [97] [(Saf.href, h), (Saf.relN, r)] [] []] = (decide (r = Saf.forced) && allowed h [httpsL]) := by
  unfold Saf.safeB
  rw [st_two, Bool.true_and, Saf.innerL, Saf.innerL, Saf.innerN, if_neg (by decide), List.all_cons, List.all_cons, List.all_nil]
  show (true && (true && (((Saf.valueB awP [97] Saf.href h && (Saf.valueB awP [97] Saf.relN r && true)) && true) && true))) = _
  rw [v_href, v_rel]
  simp [Bool.and_comm]
theorem link_back (h r : L) : Saf.safeB awP [.mk [97] [(Saf.relN, r), (Saf.href, h)] [] []] = false := by
  unfold Saf.safeB
  rw [Saf.innerL, Saf.innerL, Saf.innerN, if_neg (by decide)]
  show (_ && (_ && (_ && ((_ && (_ && (false && _))) && _)))) = false
  simp
theorem link_alone (h : L) : Saf.safeB awP [.mk [97] [(Saf.href, h)] [] []] = false := by
  unfold Saf.safeB
  rw [Saf.innerL, Saf.innerL, Saf.innerN, if_neg (by decide)]
  show (_ && (_ && (_ && ((_ && (_ && (false && _))) && _)))) = false
  simp
theorem ws_pair (a b c d : L) (h : a.length + b.length + c.length + d.length ≤ 15000) : wsL [.mk [97] [(a, b), (c, d)] [] []] ≤ 20000 := by
  rw [wsL, wsL, wsN, waL, waL, waL, wsL]
  simp only [List.length_cons, List.length_nil]
  omega
theorem ws_sole (a b : L) (h : a.length + b.length ≤ 15000) : wsL [.mk [97] [(a, b)] [] []] ≤ 20000 := by
  rw [wsL, wsL, wsN, waL, waL, wsL]
  simp only [List.length_cons, List.length_nil]
  omega
theorem nat_two {w : World} {gA gN : Nat} {n1 x1 n2 x2 : ByteArray} (hA : w.heap[gA]? = some (.cells #[.string n1, .string x1, .string n2, .string x2] 26 (0, 0))) (hN : w.heap[gN]? = some (.cells #[.string ⟨#[97]⟩, .slice (some ⟨gA, 0, none⟩) 2 2, .string ⟨#[]⟩, .slice none 0 0] 36 (0, 0))) (h1 : n1.size ≤ 100000 ∧ x1.size ≤ 100000) (h2 : n2.size ≤ 100000 ∧ x2.size ≤ 100000) : Dm.NAt w (.slice (some ⟨gN, 0, none⟩) 1 1) [.mk [97] [(bl n1, bl x1), (bl n2, bl x2)] [] []] :=
  nat_block (XN := ⟨#[97]⟩) hN (by decide) (arow_block (l := [(n1, x1), (n2, x2)]) hA (by
    intro x hx
    simp only [List.mem_cons, List.not_mem_nil, or_false] at hx
    rcases hx with rfl | rfl
    · exact h1
    · exact h2) (by simp))
theorem nat_one {w : World} {gA gN : Nat} {n1 x1 : ByteArray} (hA : w.heap[gA]? = some (.cells #[.string n1, .string x1] 26 (0, 0))) (hN : w.heap[gN]? = some (.cells #[.string ⟨#[97]⟩, .slice (some ⟨gA, 0, none⟩) 1 1, .string ⟨#[]⟩, .slice none 0 0] 36 (0, 0))) (h1 : n1.size ≤ 100000 ∧ x1.size ≤ 100000) : Dm.NAt w (.slice (some ⟨gN, 0, none⟩) 1 1) [.mk [97] [(bl n1, bl x1)] [] []] :=
  nat_block (XN := ⟨#[97]⟩) hN (by decide) (arow_block (l := [(n1, x1)]) hA (by
    intro x hx
    simp only [List.mem_cons, List.not_mem_nil, or_false] at hx
    rcases hx with rfl
    exact h1) (by simp))
/-- The law's policy in memory. -/
structure LkB (w2 : World) (wx : World) : Prop where
  p : wx.heap[w2.heap.size + 3]? = some (.cells #[.int .i64 1, .slice (some ⟨w2.heap.size, 0, none⟩) 1 1, .slice (some ⟨w2.heap.size + 1, 0, none⟩) 1 1, .slice (some ⟨w2.heap.size + 1 + 1, 0, none⟩) 1 1, .slice none 0 0, .slice none 0 0, .int .i64 9, .int .i64 99, .int .i64 999] 24 (0, 0))
  s1 : StrArg wx (.slice (some ⟨w2.heap.size, 0, none⟩) 1 1) [⟨#[97]⟩]
  s2 : StrArg wx (.slice (some ⟨w2.heap.size + 1, 0, none⟩) 1 1) [⟨#[97, 46, 104, 114, 101, 102]⟩]
  s3 : StrArg wx (.slice (some ⟨w2.heap.size + 2, 0, none⟩) 1 1) [⟨#[104, 116, 116, 112, 115]⟩]
  b : Below w2.heap.size w2 wx
theorem LkB.keep {w2 wx wy : World} (h : LkB w2 wx) (hb : Below wx.heap.size wx wy) : LkB w2 wy :=
  ⟨(hb.block _ (Array.getElem?_eq_some_iff.1 h.p).1).trans h.p, h.s1.below hb, h.s2.below hb, h.s3.below hb, h.b.trans (hb.mono h.b.size)⟩
theorem LkB.pol {w2 wx : World} (h : LkB w2 wx) : PolV wx (.slice (some ⟨w2.heap.size, 0, none⟩) 1 1) (.slice (some ⟨w2.heap.size + 1, 0, none⟩) 1 1) (.slice (some ⟨w2.heap.size + 2, 0, none⟩) 1 1) (.slice none 0 0) (.slice none 0 0) awP [⟨#[97]⟩] [⟨#[97, 46, 104, 114, 101, 102]⟩] [⟨#[104, 116, 116, 112, 115]⟩] [] [] :=
  ⟨h.s1, h.s2, h.s3, strArg_nil _, strArg_nil _, rfl, rfl, rfl, rfl, rfl, trivial⟩
theorem LkB.new (w2 : World) : LkB w2 ((((w2.alloc (.cells #[.string ⟨#[97]⟩] 9)).alloc (.cells #[.string ⟨#[97, 46, 104, 114, 101, 102]⟩] 9)).alloc (.cells #[.string ⟨#[104, 116, 116, 112, 115]⟩] 9)).alloc (.cells #[.int .i64 1, .slice (some ⟨w2.heap.size, 0, none⟩) 1 1, .slice (some ⟨w2.heap.size + 1, 0, none⟩) 1 1, .slice (some ⟨w2.heap.size + 1 + 1, 0, none⟩) 1 1, .slice none 0 0, .slice none 0 0, .int .i64 9, .int .i64 99, .int .i64 999] 24)) := by
  obtain ⟨wa, ha⟩ : ∃ wa, wa = w2.alloc (.cells #[.string ⟨#[97]⟩] 9) := ⟨_, rfl⟩
  obtain ⟨wb, hb⟩ : ∃ wb, wb = wa.alloc (.cells #[.string ⟨#[97, 46, 104, 114, 101, 102]⟩] 9) := ⟨_, rfl⟩
  obtain ⟨wc, hc⟩ : ∃ wc, wc = wb.alloc (.cells #[.string ⟨#[104, 116, 116, 112, 115]⟩] 9) := ⟨_, rfl⟩
  obtain ⟨wd, hd⟩ : ∃ wd, wd = wc.alloc (.cells #[.int .i64 1, .slice (some ⟨w2.heap.size, 0, none⟩) 1 1, .slice (some ⟨w2.heap.size + 1, 0, none⟩) 1 1, .slice (some ⟨w2.heap.size + 1 + 1, 0, none⟩) 1 1, .slice none 0 0, .slice none 0 0, .int .i64 9, .int .i64 99, .int .i64 999] 24) := ⟨_, rfl⟩
  have za : wa.heap.size = w2.heap.size + 1 := by rw [ha]; simp
  have zb : wb.heap.size = w2.heap.size + 2 := by rw [hb]; simp; omega
  have zc : wc.heap.size = w2.heap.size + 3 := by rw [hc]; simp; omega
  have Ba : Below w2.heap.size w2 wa := by rw [ha]; exact bel_alloc (Below.refl _ _) _
  have Bb : Below wa.heap.size wa wb := by rw [hb]; exact bel_alloc (Below.refl _ _) _
  have Bc : Below wb.heap.size wb wc := by rw [hc]; exact bel_alloc (Below.refl _ _) _
  have Bd : Below wc.heap.size wc wd := by rw [hd]; exact bel_alloc (Below.refl _ _) _
  have r1 := one_row w2 ⟨#[97]⟩ 9
  have r2 := one_row wa ⟨#[97, 46, 104, 114, 101, 102]⟩ 9
  have r3 := one_row wb ⟨#[104, 116, 116, 112, 115]⟩ 9
  rw [← ha] at r1
  rw [← hb, za] at r2
  rw [← hc, zb] at r3
  have k4 := new_block wc #[.int .i64 1, .slice (some ⟨w2.heap.size, 0, none⟩) 1 1, .slice (some ⟨w2.heap.size + 1, 0, none⟩) 1 1, .slice (some ⟨w2.heap.size + 1 + 1, 0, none⟩) 1 1, .slice none 0 0, .slice none 0 0, .int .i64 9, .int .i64 99, .int .i64 999] 24
  rw [← hd, zc] at k4
  rw [← ha, ← hb, ← hc, ← hd]
  exact ⟨k4, ((r1.below Bb).below Bc).below Bd, (r2.below Bc).below Bd, r3.below Bd, bel2 (bel2 (bel2 Ba Bb) Bc) Bd⟩

set_option maxRecDepth 100000 in
set_option maxHeartbeats 16000000 in
theorem lawLinks_walk (hS : SafeC) (hU : Ul.AllowedC) (h r : ByteArray) (bh : Bool) (w : World) :
    Calls Tryd.prog 6 #[.string h, .string r, .bool bh] w fun e w' => e = .returned (.bool true) ∧ Below w.heap.size w w' := by
  have CW := hide (awake_any hS w)
  by_cases z1 : h.size ≤ 1000
  case neg =>
    clear hS hU
    go_enter Tryd.func6, Tryd.ntmps6
    go_wp2_with fail
    refine CW.out.mono ?_
    rintro e w2 ⟨rfl, h2⟩
    have H2 := hide h2
    clear h2 CW
    go_wp2_with fail
    go_ret
    exact ⟨rfl, H2.out⟩
  case pos =>
  by_cases z2 : r.size ≤ 100
  case neg =>
    clear hS hU
    go_enter Tryd.func6, Tryd.ntmps6
    go_wp2_with fail
    refine CW.out.mono ?_
    rintro e w2 ⟨rfl, h2⟩
    have H2 := hide h2
    clear h2 CW
    go_wp2_with fail
    go_ret
    exact ⟨rfl, H2.out⟩
  case pos =>
  have HS : Hid (∀ (w2 wx : World) (v : Value) (ns : List Nd), LkB w2 wx → Dm.NAt wx v ns → wsL ns ≤ 20000 → Calls Tryd.prog 14 #[.agg #[.int .i64 1, .slice (some ⟨w2.heap.size, 0, none⟩) 1 1, .slice (some ⟨w2.heap.size + 1, 0, none⟩) 1 1, .slice (some ⟨w2.heap.size + 1 + 1, 0, none⟩) 1 1, .slice none 0 0, .slice none 0 0, .int .i64 9, .int .i64 99, .int .i64 999], v] wx fun e w' => e = .returned (.bool (Saf.safeB awP ns)) ∧ LkB w2 w') := hide (fun w2 wx v ns hl hn hw => (hS _ _ _ _ _ awP _ _ _ _ _ v ns wx hl.pol awP_fits hn hw).mono fun _ w' ⟨h1, h2⟩ => ⟨h1, hl.keep h2⟩)
  have HUU := hide hU
  clear hS hU
  go_enter Tryd.func6, Tryd.ntmps6
  go_wp2_with fail
  refine CW.out.mono ?_
  rintro e w2 ⟨rfl, h2⟩
  have H2 := hide h2
  clear h2 CW
  have HS := hide (HS.out w2)
  obtain ⟨w3, hw3⟩ : ∃ w3, w3 = (((w2.alloc (.cells #[.string ⟨#[97]⟩] 9)).alloc (.cells #[.string ⟨#[97, 46, 104, 114, 101, 102]⟩] 9)).alloc (.cells #[.string ⟨#[104, 116, 116, 112, 115]⟩] 9)).alloc (.cells #[.int .i64 1, .slice (some ⟨w2.heap.size, 0, none⟩) 1 1, .slice (some ⟨w2.heap.size + 1, 0, none⟩) 1 1, .slice (some ⟨w2.heap.size + 1 + 1, 0, none⟩) 1 1, .slice none 0 0, .slice none 0 0, .int .i64 9, .int .i64 99, .int .i64 999] 24) := ⟨_, rfl⟩
  have H3 : Hid (LkB w2 w3) := hide (by rw [hw3]; exact LkB.new w2)
  have HY : Hid (∀ wx, LkB w2 wx → wx.cell? ⟨w2.heap.size + 1 + 1 + 1, 0, none⟩ = some (.int .i64 1) ∧ wx.cell? ⟨w2.heap.size + 1 + 1 + 1, 1, none⟩ = some (.slice (some ⟨w2.heap.size, 0, none⟩) 1 1) ∧ wx.cell? ⟨w2.heap.size + 1 + 1 + 1, 2, none⟩ = some (.slice (some ⟨w2.heap.size + 1, 0, none⟩) 1 1) ∧ wx.cell? ⟨w2.heap.size + 1 + 1 + 1, 3, none⟩ = some (.slice (some ⟨w2.heap.size + 1 + 1, 0, none⟩) 1 1) ∧ wx.cell? ⟨w2.heap.size + 1 + 1 + 1, 4, none⟩ = some (.slice none 0 0) ∧ wx.cell? ⟨w2.heap.size + 1 + 1 + 1, 5, none⟩ = some (.slice none 0 0) ∧ wx.cell? ⟨w2.heap.size + 1 + 1 + 1, 6, none⟩ = some (.int .i64 9) ∧ wx.cell? ⟨w2.heap.size + 1 + 1 + 1, 7, none⟩ = some (.int .i64 99) ∧ wx.cell? ⟨w2.heap.size + 1 + 1 + 1, 8, none⟩ = some (.int .i64 999)) := hide (fun wx hl => ⟨tag_cell hl.p 0 _ rfl, tag_cell hl.p 1 _ rfl, tag_cell hl.p 2 _ rfl, tag_cell hl.p 3 _ rfl, tag_cell hl.p 4 _ rfl, tag_cell hl.p 5 _ rfl, tag_cell hl.p 6 _ rfl, tag_cell hl.p 7 _ rfl, tag_cell hl.p 8 _ rfl⟩)
  go_upto_region 5 with fail
  rw [← hw3]
  clear hw3
  obtain ⟨w4, hw4⟩ : ∃ w4, w4 = w3.alloc (.cells #[.string ⟨#[104, 114, 101, 102]⟩, .string h, .string ⟨#[114, 101, 108]⟩, .string r] 26) := ⟨_, rfl⟩
  have H4 : Hid (LkB w2 w4 ∧ w4.heap[w3.heap.size]? = some (.cells #[.string ⟨#[104, 114, 101, 102]⟩, .string h, .string ⟨#[114, 101, 108]⟩, .string r] 26 (0, 0))) := hide (by rw [hw4]; exact ⟨H3.out.keep (bel_alloc (Below.refl _ _) _), new_block _ _ _⟩)
  go_upto_region 6 with fail
  rw [← hw4]
  clear hw4
  cases bh with
  | true =>
    obtain ⟨y0, y1, y2, y3, y4, y5, y6, y7, y8⟩ := HY.out _ H4.out.1
    obtain ⟨w5, hw5⟩ : ∃ w5, w5 = w4.alloc (.cells #[.string ⟨#[97]⟩, .slice (some ⟨w3.heap.size, 0, none⟩) 2 2, .string ⟨#[]⟩, .slice none 0 0] 36) := ⟨_, rfl⟩
    have H5 : Hid (LkB w2 w5 ∧ Dm.NAt w5 (.slice (some ⟨w4.heap.size, 0, none⟩) 1 1) [.mk [97] [(bl bHref, bl h), (bl bRel, bl r)] [] []]) := hide (by
      have hB : Below w4.heap.size w4 w5 := by rw [hw5]; exact bel_alloc (Below.refl _ _) _
      refine ⟨H4.out.1.keep hB, nat_two (gA := w3.heap.size) ((hB.block _ (Array.getElem?_eq_some_iff.1 H4.out.2).1).trans H4.out.2) (by rw [hw5]; exact new_block _ _ _) ⟨?_, ?_⟩ ⟨?_, ?_⟩⟩
      all_goals first | decide | omega)
    have C1 := hide (HS.out w5 (.slice (some ⟨w4.heap.size, 0, none⟩) 1 1) _ H5.out.1 H5.out.2 (ws_pair _ _ _ _ (by rw [bl_len, bl_len, bl_len, bl_len]; show _ + _ + _ + _ ≤ 15000; have e4 : bHref.size = 4 := rfl; have e3 : bRel.size = 3 := rfl; omega)))
    rw [show Saf.safeB awP [Nd.mk [97] [(bl bHref, bl h), (bl bRel, bl r)] [] []] = (decide (bl r = Saf.forced) && allowed (bl h) [httpsL]) from link_safe (bl h) (bl r)] at C1
    go_wp2_with fail
    rw [← hw5]
    clear hw5
    refine C1.out.mono ?_
    rintro e w6 ⟨rfl, h6⟩
    have H6 := hide h6
    clear h6 C1 H5 y0 y1 y2 y3 y4 y5 y6 y7 y8
    obtain ⟨y0, y1, y2, y3, y4, y5, y6, y7, y8⟩ := HY.out _ H6.out
    obtain ⟨w8, hw8⟩ : ∃ w8, w8 = (w6.alloc (.cells #[.string ⟨#[104, 114, 101, 102]⟩, .string h] 26)).alloc (.cells #[.string ⟨#[97]⟩, .slice (some ⟨w6.heap.size, 0, none⟩) 1 1, .string ⟨#[]⟩, .slice none 0 0] 36) := ⟨_, rfl⟩
    have H8 : Hid (LkB w2 w8 ∧ Dm.NAt w8 (.slice (some ⟨w6.heap.size + 1, 0, none⟩) 1 1) [.mk [97] [(bl bHref, bl h)] [] []]) := hide (by
      obtain ⟨wa, ha⟩ : ∃ wa, wa = w6.alloc (.cells #[.string ⟨#[104, 114, 101, 102]⟩, .string h] 26) := ⟨_, rfl⟩
      rw [← ha] at hw8
      have za : wa.heap.size = w6.heap.size + 1 := by rw [ha]; simp
      have k1 := new_block w6 #[.string ⟨#[104, 114, 101, 102]⟩, .string h] 26
      rw [← ha] at k1
      have k2 := new_block wa #[.string ⟨#[97]⟩, .slice (some ⟨w6.heap.size, 0, none⟩) 1 1, .string ⟨#[]⟩, .slice none 0 0] 36
      rw [← hw8, za] at k2
      have hA : Below w6.heap.size w6 wa := by rw [ha]; exact bel_alloc (Below.refl _ _) _
      have hB : Below wa.heap.size wa w8 := by rw [hw8]; exact bel_alloc (Below.refl _ _) _
      exact ⟨(H6.out.keep hA).keep hB, nat_one (gA := w6.heap.size) ((hB.block _ (by omega)).trans k1) k2 ⟨by decide, by omega⟩⟩)
    have C2 := hide (HS.out w8 (.slice (some ⟨w6.heap.size + 1, 0, none⟩) 1 1) _ H8.out.1 H8.out.2 (ws_sole _ _ (by rw [bl_len, bl_len]; have e4 : bHref.size = 4 := rfl; omega)))
    rw [show Saf.safeB awP [Nd.mk [97] [(bl bHref, bl h)] [] []] = false from link_alone (bl h)] at C2
    go_wp2_with fail
    rw [← hw8]
    clear hw8
    refine C2.out.mono ?_
    rintro e w9 ⟨rfl, h9⟩
    have H9 := hide (bel2 H2.out h9.b)
    clear h9 C2 H8 H6 y0 y1 y2 y3 y4 y5 y6 y7 y8
    have g5 := eq_lit r [110, 111, 102, 111, 108, 108, 111, 119, 32, 110, 111, 111, 112, 101, 110, 101, 114]
    by_cases hd : bl r = [110, 111, 102, 111, 108, 108, 111, 119, 32, 110, 111, 111, 112, 101, 110, 101, 114]
    · rw [decide_eq_true hd] at g5
      rw [show decide (bl r = Saf.forced) = true from decide_eq_true hd, Bool.true_and]
      obtain ⟨wk, hwk⟩ : ∃ wk, wk = w9.alloc (.cells #[.string ⟨#[104, 116, 116, 112, 115]⟩] 9) := ⟨_, rfl⟩
      have HWK : Hid (Below w.heap.size w wk) := hide (by rw [hwk]; exact bel_alloc H9.out _)
      have C3 : Hid (Calls Tryd.prog 16 #[.string h, .slice (some ⟨w9.heap.size, 0, none⟩) 1 1] wk fun e w' => e = .returned (.bool (allowed (bl h) [httpsL])) ∧ Below wk.heap.size wk w') := hide (HUU.out h _ [⟨#[104, 116, 116, 112, 115]⟩] wk (by omega) (by simp) (by rw [hwk]; exact one_row w9 _ _))
      generalize allowed (bl h) [httpsL] = al at C3
      have q1 : (al == al) = true := by cases al <;> rfl
      clear hd
      go_wp2_with fail
      rw [← hwk]
      clear hwk
      refine C3.out.mono ?_
      rintro e w10 ⟨rfl, h10⟩
      have H10 := hide (bel2 HWK.out h10)
      clear h10 C3
      go_wp2_with fail
      go_ret
      exact ⟨rfl, H10.out⟩
    · rw [decide_eq_false hd] at g5
      rw [show decide (bl r = Saf.forced) = false from decide_eq_false hd, Bool.false_and]
      clear hd
      go_wp2_with fail
      go_ret
      exact ⟨rfl, H9.out⟩
  | false =>
    obtain ⟨wf, hwf⟩ : ∃ wf, wf = w4.alloc (.cells #[.string ⟨#[114, 101, 108]⟩, .string r, .string ⟨#[104, 114, 101, 102]⟩, .string h] 26) := ⟨_, rfl⟩
    have HF : Hid (LkB w2 wf ∧ wf.heap[w4.heap.size]? = some (.cells #[.string ⟨#[114, 101, 108]⟩, .string r, .string ⟨#[104, 114, 101, 102]⟩, .string h] 26 (0, 0))) := hide (by rw [hwf]; exact ⟨H4.out.1.keep (bel_alloc (Below.refl _ _) _), new_block _ _ _⟩)
    go_upto_region 8 with fail
    rw [← hwf]
    clear hwf
    obtain ⟨y0, y1, y2, y3, y4, y5, y6, y7, y8⟩ := HY.out _ HF.out.1
    obtain ⟨w5, hw5⟩ : ∃ w5, w5 = wf.alloc (.cells #[.string ⟨#[97]⟩, .slice (some ⟨w4.heap.size, 0, none⟩) 2 2, .string ⟨#[]⟩, .slice none 0 0] 36) := ⟨_, rfl⟩
    have H5 : Hid (LkB w2 w5 ∧ Dm.NAt w5 (.slice (some ⟨wf.heap.size, 0, none⟩) 1 1) [.mk [97] [(bl bRel, bl r), (bl bHref, bl h)] [] []]) := hide (by
      have hB : Below wf.heap.size wf w5 := by rw [hw5]; exact bel_alloc (Below.refl _ _) _
      refine ⟨HF.out.1.keep hB, nat_two (gA := w4.heap.size) ((hB.block _ (Array.getElem?_eq_some_iff.1 HF.out.2).1).trans HF.out.2) (by rw [hw5]; exact new_block _ _ _) ⟨?_, ?_⟩ ⟨?_, ?_⟩⟩
      all_goals first | decide | omega)
    have C1 := hide (HS.out w5 (.slice (some ⟨wf.heap.size, 0, none⟩) 1 1) _ H5.out.1 H5.out.2 (ws_pair _ _ _ _ (by rw [bl_len, bl_len, bl_len, bl_len]; show _ + _ + _ + _ ≤ 15000; have e4 : bHref.size = 4 := rfl; have e3 : bRel.size = 3 := rfl; omega)))
    rw [show Saf.safeB awP [Nd.mk [97] [(bl bRel, bl r), (bl bHref, bl h)] [] []] = false from link_back (bl h) (bl r)] at C1
    go_wp2_with fail
    rw [← hw5]
    clear hw5
    refine C1.out.mono ?_
    rintro e w6 ⟨rfl, h6⟩
    have H6 := hide h6
    clear h6 C1 H5 y0 y1 y2 y3 y4 y5 y6 y7 y8
    obtain ⟨y0, y1, y2, y3, y4, y5, y6, y7, y8⟩ := HY.out _ H6.out
    obtain ⟨w8, hw8⟩ : ∃ w8, w8 = (w6.alloc (.cells #[.string ⟨#[104, 114, 101, 102]⟩, .string h] 26)).alloc (.cells #[.string ⟨#[97]⟩, .slice (some ⟨w6.heap.size, 0, none⟩) 1 1, .string ⟨#[]⟩, .slice none 0 0] 36) := ⟨_, rfl⟩
    have H8 : Hid (LkB w2 w8 ∧ Dm.NAt w8 (.slice (some ⟨w6.heap.size + 1, 0, none⟩) 1 1) [.mk [97] [(bl bHref, bl h)] [] []]) := hide (by
      obtain ⟨wa, ha⟩ : ∃ wa, wa = w6.alloc (.cells #[.string ⟨#[104, 114, 101, 102]⟩, .string h] 26) := ⟨_, rfl⟩
      rw [← ha] at hw8
      have za : wa.heap.size = w6.heap.size + 1 := by rw [ha]; simp
      have k1 := new_block w6 #[.string ⟨#[104, 114, 101, 102]⟩, .string h] 26
      rw [← ha] at k1
      have k2 := new_block wa #[.string ⟨#[97]⟩, .slice (some ⟨w6.heap.size, 0, none⟩) 1 1, .string ⟨#[]⟩, .slice none 0 0] 36
      rw [← hw8, za] at k2
      have hA : Below w6.heap.size w6 wa := by rw [ha]; exact bel_alloc (Below.refl _ _) _
      have hB : Below wa.heap.size wa w8 := by rw [hw8]; exact bel_alloc (Below.refl _ _) _
      exact ⟨(H6.out.keep hA).keep hB, nat_one (gA := w6.heap.size) ((hB.block _ (by omega)).trans k1) k2 ⟨by decide, by omega⟩⟩)
    have C2 := hide (HS.out w8 (.slice (some ⟨w6.heap.size + 1, 0, none⟩) 1 1) _ H8.out.1 H8.out.2 (ws_sole _ _ (by rw [bl_len, bl_len]; have e4 : bHref.size = 4 := rfl; omega)))
    rw [show Saf.safeB awP [Nd.mk [97] [(bl bHref, bl h)] [] []] = false from link_alone (bl h)] at C2
    go_wp2_with fail
    rw [← hw8]
    clear hw8
    refine C2.out.mono ?_
    rintro e w9 ⟨rfl, h9⟩
    have H9 := hide (bel2 H2.out h9.b)
    clear h9 C2 H8 H6 y0 y1 y2 y3 y4 y5 y6 y7 y8
    go_wp2_with fail
    go_ret
    exact ⟨rfl, H9.out⟩
end Go.Proofs.YtbcadeikdmlpoaaDoor
