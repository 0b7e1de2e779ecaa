/-
  The law MailOwn.
-/
import Derived.Test.YtmogplecohkjcaaGreatDoorMBZ
import Derived.Test.YtmogplecohkjcaaGreatDoorMLS
import Derived.Deep.QuietTactic
import Derived.BigQuiet
namespace Go.Proofs.YtmogplecohkjcaaGreatDoor
open Go.RowKit
open Utf1
open Pol8 hiding text right Right
open Msg15 Mail17

theorem cell_same {w w' : World} {b i : Nat} (h : w'.heap[b]? = w.heap[b]?) : w'.cell? ⟨b, i, none⟩ = w.cell? ⟨b, i, none⟩ := by
  unfold World.cell?
  rw [h]
theorem frozen_same {w w' : World} {b i : Nat} (h : w'.heap[b]? = w.heap[b]?) : w'.frozen? ⟨b, i, none⟩ = w.frozen? ⟨b, i, none⟩ := by
  unfold World.frozen?
  rw [h]
theorem map_bl_inj : ∀ {a b : List ByteArray}, a.map bl = b.map bl → a = b
  | [], [], _ => rfl
  | [], _ :: _, h => by cases h
  | _ :: _, [], h => by cases h
  | x :: a, y :: b, h => by
    injection h with h1 h2
    rw [ba_ext h1, map_bl_inj h2]
theorem one_of {ts : List Im} {m : Ms} (h : ts.map Im.m = [m]) : ∃ t, ts = [t] ∧ t.m = m := by
  rcases ts with _ | ⟨t, _ | ⟨u, r⟩⟩
  · cases h
  · exact ⟨t, rfl, by injection h⟩
  · cases h
theorem bel_drewB (w : World) (n B : Nat) : Below B w (w.drewN n) := ⟨rfl, rfl, rfl, Nat.le_refl _, fun _ _ => rfl⟩
theorem ostrArg_at {w : World} {p : Option Addr} {n c : Nat} {ss : List ByteArray} {x : ByteArray} (h : StrArg w (.slice p n c) ss) (hx : ss[0]? = some x) : ∃ b o, p = some ⟨b, o, none⟩ ∧ w.cell? ⟨b, o, none⟩ = some (.string x) := by
  obtain ⟨p', c', e, -, hc⟩ := h
  obtain ⟨b, o, hp, k⟩ := hc 0 x hx
  injection e with e _ _
  exact ⟨b, o, e.trans hp, k⟩
set_option maxRecDepth 100000 in
set_option maxHeartbeats 16000000 in
theorem own_walk {Bx : World → Value → List Ms → List Nat → Prop} (C : MailC Bx) {v : Value} {ls : List ByteArray} {s : ByteArray} (w : World) (hg : GlobM w) (hv : StrArg w v ls) (hl : ls.length * 16 ≤ 140737488355328) :
    Calls Tryz.prog 6 #[v, .string s] w fun e w' => e = .returned (.bool true) ∧ Below w.heap.size w w' := by
  have HG := hide hg
  have HC := hide C
  have CW := hide (mawake_any C w hg)
  have HV := hide hv
  obtain ⟨p, cap, rfl, -, -⟩ := hv
  obtain ⟨N, hN⟩ : ∃ N, N = ls.length := ⟨_, rfl⟩
  rw [← hN] at HV hl ⊢
  have HN := hide hN
  clear C hg hN
  go_enter Tryz.func6, Tryz.ntmps6
  go_wp2_with fail
  refine CW.out.mono ?_
  rintro e w0 ⟨rfl, hb0⟩
  have B0 := hide hb0
  clear hb0 CW
  go_wp2_with fail
  refine (mnew_any HC.out w0 (HG.out.below B0.out)).mono ?_
  rintro e w1 ⟨⟨a, rfl, hx1⟩, hb1⟩
  have B1 := hide (bel2 B0.out hb1)
  have X1 := hide hx1
  have BN := hide hb1
  clear hx1 hb1
  have hlr : (0 + ls.length) * 16 ≤ 140737488355328 := by rw [← HN.out]; omega
  have HLR := hide hlr
  clear hlr
  go_wp2_with (at_builtin; refine bappend_strs rfl _ _ rfl w1.heap.size _ 0 [] rfl (bown_empty w1 _ (Nat.le_refl _)) _ ls rfl (HV.out.below (bel_alloc B1.out _)) HLR.out (by simp) ?_; intro v2 w2 hown2 hg2; rw [List.nil_append, Nat.zero_add, ← HN.out] at hown2; obtain ⟨p2, c2, hv2, hc2⟩ := own_shape hown2; subst hv2)
  have hb2 : Below w1.heap.size w1 w2 := (bel_alloc (Below.refl _ _) _).grown hg2 (bel_alloc (Below.refl w1.heap.size w1) _).size (fun k hk => by cases hk; exact Nat.le_refl _)
  obtain ⟨W3, hW3⟩ : ∃ W3, W3 = w2.alloc (.cells #[.int .i64 1, .int .i64 1, .int .i64 2, .int .i64 0, .slice p2 N c2, .slice none 0 0, .int .i64 0, .slice none 0 0, .slice none 0 0, .slice none 0 0, .slice none 0 0, .slice none 0 0, .int .i64 0, .int .i64 0, .int .i64 0] 35) := ⟨_, rfl⟩
  rw [← hW3]
  have hb3 : Below w2.heap.size w2 W3 := by rw [hW3]; exact bel_alloc (Below.refl _ _) _
  have hs3 : W3.heap.size = w2.heap.size + 1 := by rw [hW3]; simp
  have hm3 : W3.heap[w2.heap.size]? = some (.cells #[.int .i64 1, .int .i64 1, .int .i64 2, .int .i64 0, .slice p2 N c2, .slice none 0 0, .int .i64 0, .slice none 0 0, .slice none 0 0, .slice none 0 0, .slice none 0 0, .slice none 0 0, .int .i64 0, .int .i64 0, .int .i64 0] 35 (0, 0)) := by rw [hW3]; exact new_block _ _ _
  have hown3 : W3.ownsRow w1.heap.size 9 1 (.slice p2 N c2) N (strV ls) := hown2.kept (row := none) (below_grown hb3) (Classical.em _)
  have H3 : Hid (Below w1.heap.size w1 W3 ∧ W3.heap.size = w2.heap.size + 1 ∧ w1.heap.size ≤ w2.heap.size ∧ W3.heap[w2.heap.size]? = some (.cells #[.int .i64 1, .int .i64 1, .int .i64 2, .int .i64 0, .slice p2 N c2, .slice none 0 0, .int .i64 0, .slice none 0 0, .slice none 0 0, .slice none 0 0, .slice none 0 0, .slice none 0 0, .int .i64 0, .int .i64 0, .int .i64 0] 35 (0, 0)) ∧ W3.ownsRow w1.heap.size 9 1 (.slice p2 N c2) N (strV ls)) := hide ⟨bel2 hb2 hb3, hs3, hb2.size, hm3, hown3⟩
  have B3 := hide (bel2 B1.out H3.out.1)
  have CL : Hid (Calls Tryz.prog 10 #[.agg #[.int .i64 1, .int .i64 1, .int .i64 2, .int .i64 0, .slice p2 N c2, .slice none 0 0, .int .i64 0, .slice none 0 0, .slice none 0 0, .slice none 0 0, .slice none 0 0, .slice none 0 0, .int .i64 0, .int .i64 0, .int .i64 0]] W3 fun e w' => (∃ b : Bool, e = .returned (.bool b) ∧ (b = true → ls.length ≤ 100)) ∧ Below W3.heap.size W3 w') := hide ((mlight_any 1 1 2 0 (.slice p2 N c2) (.slice none 0 0) ls [] _ _ _ _ _ Pol.zero [] [] [] [] [] W3 (own_arg (by rw [← HN.out]; exact hown3)) (postRow_nil W3) (PolV.zero W3 (HG.out.below B3.out).1)).mono (fun e w' h => ⟨by
    obtain ⟨⟨b, h1, h2⟩, -⟩ := h
    exact ⟨b, h1, fun k => (h2 k).2.1⟩, h.2⟩))
  have B00 := BN
  clear hb2 hW3 hb3 hs3 hm3 hown3 hown2 hg2 hc2 HLR BN
  have HY : Hid (∀ wx : World, wx.heap[w2.heap.size]? = W3.heap[w2.heap.size]? → wx.cell? ⟨w2.heap.size, 0, none⟩ = some (.int .i64 1) ∧ wx.cell? ⟨w2.heap.size, 1, none⟩ = some (.int .i64 1) ∧ wx.cell? ⟨w2.heap.size, 2, none⟩ = some (.int .i64 2) ∧ wx.cell? ⟨w2.heap.size, 3, none⟩ = some (.int .i64 0) ∧ wx.cell? ⟨w2.heap.size, 4, none⟩ = some (.slice p2 N c2) ∧ wx.cell? ⟨w2.heap.size, 5, none⟩ = some (.slice none 0 0) ∧ wx.cell? ⟨w2.heap.size, 6, none⟩ = some (.int .i64 0) ∧ wx.cell? ⟨w2.heap.size, 7, none⟩ = some (.slice none 0 0) ∧ wx.cell? ⟨w2.heap.size, 8, none⟩ = some (.slice none 0 0) ∧ wx.cell? ⟨w2.heap.size, 9, none⟩ = some (.slice none 0 0) ∧ wx.cell? ⟨w2.heap.size, 10, none⟩ = some (.slice none 0 0) ∧ wx.cell? ⟨w2.heap.size, 11, none⟩ = some (.slice none 0 0) ∧ wx.cell? ⟨w2.heap.size, 12, none⟩ = some (.int .i64 0) ∧ wx.cell? ⟨w2.heap.size, 13, none⟩ = some (.int .i64 0) ∧ wx.cell? ⟨w2.heap.size, 14, none⟩ = some (.int .i64 0)) := hide (fun wx h => by
    have h' := h.trans H3.out.2.2.2.1
    exact ⟨tag_cell h' 0 _ rfl, tag_cell h' 1 _ rfl, tag_cell h' 2 _ rfl, tag_cell h' 3 _ rfl, tag_cell h' 4 _ rfl, tag_cell h' 5 _ rfl, tag_cell h' 6 _ rfl, tag_cell h' 7 _ rfl, tag_cell h' 8 _ rfl, tag_cell h' 9 _ rfl, tag_cell h' 10 _ rfl, tag_cell h' 11 _ rfl, tag_cell h' 12 _ rfl, tag_cell h' 13 _ rfl, tag_cell h' 14 _ rfl⟩)
  refine CL.out.mono ?_
  rintro e w4 ⟨⟨b, rfl, hlb⟩, hb4⟩
  have LB := hide hlb
  have B34 := hide hb4
  have B4 := hide (bel2 B3.out hb4)
  clear hlb hb4 CL
  cases b with
  | false =>
    go_wp2_with fail
    go_ret
    exact ⟨rfl, B4.out⟩
  | true =>
    have hl100 : N ≤ 100 := by rw [HN.out]; exact LB.out rfl
    obtain ⟨t, ht⟩ : ∃ t : Im, t = ⟨⟨1, 1, 2, 0, ls.map bl, [], Pol.zero⟩, .slice p2 N c2, .slice none 0 0, .slice none 0 0, .slice none 0 0, .slice none 0 0, .slice none 0 0, .slice none 0 0, ls, [], [], [], [], [], []⟩ := ⟨_, rfl⟩
    have HT := hide ht
    have HOK : Hid (∀ wx, Below W3.heap.size W3 wx → t.ok wx) := hide (fun wx hb => by
      rw [ht]
      exact ⟨own_arg (by rw [← HN.out]; exact H3.out.2.2.2.2.kept (row := none) (below_grown hb) (Classical.em _)), postRow_nil wx, PolV.zero wx (HG.out.below (bel2 B3.out hb)).1, rfl, rfl, fits_zero, by rw [← HN.out]; omega, by simp⟩)
    have HSM : Hid (MRight t.m → Sml t.m) := hide (fun hr => by
      have hs := light_short hr (by rw [ht]; show mSum (([] : List (L × L)).map (·.2)) < 20000; exact (by decide))
      exact Nat.le_trans hs (by decide))
    have CR : Hid (Calls Tryz.prog 23 #[.agg #[.int .i64 1, .int .i64 1, .int .i64 2, .int .i64 0, .slice p2 N c2, .slice none 0 0, .int .i64 0, .slice none 0 0, .slice none 0 0, .slice none 0 0, .slice none 0 0, .slice none 0 0, .int .i64 0, .int .i64 0, .int .i64 0]] w4 fun e w' => (∃ b : Bool, e = .returned (.bool b) ∧ (b = true ↔ MRight t.m)) ∧ Below w4.heap.size w4 w') := hide (by
      have hk := HOK.out w4 B34.out
      rw [ht] at hk ⊢
      exact mright_any 1 1 2 0 (.slice p2 N c2) (.slice none 0 0) ls [] _ _ _ _ _ Pol.zero [] [] [] [] [] w4 hk.hi hk.hp hk.hv hk.hf hk.li hk.lp _ rfl)
    obtain ⟨y0, y1, y2, y3, y4, y5, y6, y7, y8, y9, y10, y11, y12, y13, y14⟩ := HY.out w4 (B34.out.block _ (by have := H3.out.2.1; omega))
    clear ht LB
    go_wp2_with fail
    refine CR.out.mono ?_
    rintro e w5 ⟨⟨b, rfl, hrb⟩, hb5⟩
    have RB := hide hrb
    have B35 := hide (bel2 B34.out hb5)
    have B5 := hide (bel2 B4.out hb5)
    clear hrb hb5 CR B34 B4 y0 y1 y2 y3 y4 y5 y6 y7 y8 y9 y10 y11 y12 y13 y14
    cases b with
    | false =>
      go_wp2_with fail
      go_ret
      exact ⟨rfl, B5.out⟩
    | true =>
      have HR := hide (RB.out.1 rfl)
      by_cases hN0 : N = 0
      · have f0 : decide ((N : Int) = 0) = true := decide_eq_true (by omega)
        have f0' : ((N : Int) == 0) = true := by simp; omega
        go_wp2_with fail
        go_ret
        exact ⟨rfl, B5.out⟩
      have f0 : decide ((N : Int) = 0) = false := decide_eq_false (by omega)
      have f0' : ((N : Int) == 0) = false := by simp; omega
      by_cases hs1 : (100 : Int) < (s.size : Int)
      · have f1 : decide ((100 : Int) < (s.size : Int)) = true := decide_eq_true hs1
        go_wp2_with fail
        go_ret
        exact ⟨rfl, B5.out⟩
      have f1 : decide ((100 : Int) < (s.size : Int)) = false := decide_eq_false hs1
      obtain ⟨g, rfl⟩ : ∃ g, p2 = some ⟨g, 0, none⟩ := by
        rcases H3.out.2.2.2.2.2 with ⟨e, hz⟩ | ⟨g, cap, cur, e, _⟩
        · omega
        · injection e with e1
          exact ⟨g, e1⟩
      have hgb := own_block H3.out.2.2.2.2 (k := g) rfl
      have XL : Hid (MBl Bx w0.heap.size [g, w2.heap.size] w5 a []) := hide (X1.out.apart HC.out (H3.out.1.trans (B35.out.mono H3.out.1.size)) (fun q hq => by
        have h1 := H3.out.2.1
        have h2 := H3.out.2.2.1
        have h3 := B35.out.size
        rcases List.mem_cons.1 hq with rfl | hq
        · omega
        · rw [List.mem_singleton.1 hq]
          omega))
      have hB0 : w0.heap.size ≤ w5.heap.size := by
        have := B00.out.size
        have := H3.out.1.size
        have := B35.out.size
        omega
      have CP : Hid (Calls Tryz.prog 11 #[.pointer (some a), .agg #[.int .i64 1, .int .i64 1, .int .i64 2, .int .i64 0, .slice (some ⟨g, 0, none⟩) N c2, .slice none 0 0, .int .i64 0, .slice none 0 0, .slice none 0 0, .slice none 0 0, .slice none 0 0, .slice none 0 0, .int .i64 0, .int .i64 0, .int .i64 0]] w5 fun e w' => (∃ c ms', e = .returned (.int .i64 c) ∧ PutR [] t.m c ms' ∧ MBl Bx w0.heap.size [g, w2.heap.size] w' a ms' ∧ ∀ q ∈ [g, w2.heap.size], w'.heap[q]? = w5.heap[q]?) ∧ Below w0.heap.size w5 w') := hide (by
        have h := mputl_any HC.out w0.heap.size [g, w2.heap.size] w5 a [] t (HG.out.below B5.out) hB0 XL.out (HOK.out w5 B35.out) (HSM.out)
        rw [HT.out] at h ⊢
        exact h)
      obtain ⟨y0, y1, y2, y3, y4, y5, y6, y7, y8, y9, y10, y11, y12, y13, y14⟩ := HY.out w5 (B35.out.block _ (by have := H3.out.2.1; omega))
      go_wp2_with fail
      refine CP.out.mono ?_
      rintro e w6 ⟨⟨c, ms', rfl, hp, hx, hq⟩, hb6⟩
      obtain ⟨rfl, rfl⟩ := put_ok hp HR.out (by rw [cnt_nil]; omega)
      have hc5 := H3.out.2.2.2.2.kept (row := none) (below_grown B35.out) (Classical.em _)
      obtain ⟨x0, hx0⟩ : ∃ x0, ls[0]? = some x0 := ⟨_, List.getElem?_eq_getElem (by have := HN.out; omega)⟩
      have c0 : w6.cell? ⟨g, 0, none⟩ = some (.string x0) := by
        rw [cell_same (hq g List.mem_cons_self), hc5.cellAt 0 (by omega)]
        unfold strV
        rw [List.getElem?_map, hx0]
        rfl
      have c1 : w6.frozen? ⟨g, 0, none⟩ = false := by
        rw [frozen_same (hq g List.mem_cons_self)]
        exact hc5.frozenAt 0
      have y4' := (HY.out w6 ((hq w2.heap.size (by simp)).trans (B35.out.block _ (by have := H3.out.2.1; omega)))).2.2.2.2.1
      have htm : t.m = ⟨1, 1, 2, 0, ls.map bl, [], Pol.zero⟩ := by rw [HT.out]
      rw [htm] at hx hp
      obtain ⟨W7, hW7⟩ : ∃ W7, W7 = w6.setCell ⟨g, 0, none⟩ (.string s) := ⟨_, rfl⟩
      have X7 : Hid (MBx Bx w0.heap.size W7 a [⟨1, 1, 2, 0, ls.map bl, [], Pol.zero⟩]) := hide (by
        rw [hW7]
        exact (hx.set HC.out (p := ⟨g, 0, none⟩) List.mem_cons_self (.string s)).box)
      have B7 : Hid (Below w.heap.size w W7 ∧ Below w0.heap.size w0 W7) := hide (by
        have h0 : Below w0.heap.size w0 w5 := B00.out.trans ((H3.out.1.trans (B35.out.mono H3.out.1.size)).mono B00.out.size)
        have h1 : Below w0.heap.size w0 W7 := by
          rw [hW7]
          exact (h0.trans hb6).setCell (show w0.heap.size ≤ g from Nat.le_trans B00.out.size hgb.1) _
        exact ⟨B0.out.trans (h1.mono B0.out.size), h1⟩)
      have HW7 := hide hW7
      have HX0 := hide hx0
      clear hp hx hq hb6 CP XL hc5 hgb htm hW7 hx0 HY H3 y0 y1 y2 y3 y4 y5 y6 y7 y8 y9 y10 y11 y12 y13 y14 B35 B5 hB0
      go_wp2_with fail
      rw [← HW7.out]
      clear c0 c1 y4' HW7
      have CA := hide (mallo_any HC.out w0.heap.size W7 a _ (HG.out.below B7.out.1) X7.out)
      refine CA.out.mono ?_
      rintro e w8 ⟨⟨u, ts, rfl, hr, hm, hx8, ho⟩, hb8⟩
      obtain ⟨t1, rfl, hm1⟩ : ∃ t1 : Im, ts = [t1] ∧ t1.m = ⟨1, 1, 2, 0, ls.map bl, [], Pol.zero⟩ := one_of hm
      obtain ⟨q, c9, hu, -⟩ := hr.shape
      subst hu
      obtain ⟨b8, o8, rfl, hr8, hk8⟩ := hr.at (i := 0) rfl
      have hids : t1.ids = ls := map_bl_inj (by have := hk8.ei; rw [hm1] at this; exact this.symm)
      have ho1 := ho t1 List.mem_cons_self
      rw [hids, ← HN.out] at ho1
      obtain ⟨g1, cg, hvi⟩ : ∃ g1 cg, t1.vi = .slice (some ⟨g1, 0, none⟩) N cg := by
        rcases ho1.2 with ⟨e, hz⟩ | ⟨g, cap, cur, e, _⟩
        · omega
        · exact ⟨g, cap, e⟩
      rw [hvi] at ho1
      have hg1 := own_block ho1 (k := g1) rfl
      have z4 : w8.cell? ⟨b8, o8 + 4, none⟩ = some (.slice (some ⟨g1, 0, none⟩) N cg) := by
        have h := (fifteen hr8).2.2.2.2.1
        rw [Nat.zero_mul, Nat.add_zero, hvi] at h
        exact h
      have d0 : w8.cell? ⟨g1, 0, none⟩ = some (.string x0) := by
        rw [ho1.cellAt 0 (by omega)]
        unfold strV
        rw [List.getElem?_map, HX0.out]
        rfl
      have d1 : w8.frozen? ⟨g1, 0, none⟩ = false := ho1.frozenAt 0
      have B8 : Hid (Below w.heap.size w w8 ∧ Below w0.heap.size w0 w8) := hide ⟨bel2 B7.out.1 hb8, bel2 B7.out.2 hb8⟩
      obtain ⟨bp, op, rfl, kp0⟩ := ostrArg_at HV.out HX0.out
      have kp := cell_keep kp0 B8.out.1
      have hxx : (x0.toList == x0.toList) = true := beq_self_eq_true _
      have X9 : Hid (∀ k, MBx Bx w0.heap.size ((w8.drewN k).setCell ⟨g1, 0, none⟩ (.string s)) a [⟨1, 1, 2, 0, ls.map bl, [], Pol.zero⟩]) := hide (fun k => ((hx8.apart HC.out (Q := [g1]) (hb8.trans (bel_drewB w8 k _)) (fun q hq => by rw [List.mem_singleton.1 hq]; exact hg1)).set HC.out (p := ⟨g1, 0, none⟩) List.mem_cons_self (.string s)).box)
      have B9 : Hid (∀ k, Below w.heap.size w ((w8.drewN k).setCell ⟨g1, 0, none⟩ (.string s)) ∧ Below w0.heap.size w0 ((w8.drewN k).setCell ⟨g1, 0, none⟩ (.string s))) := hide (fun k => by
        have h1 : Below w0.heap.size w0 ((w8.drewN k).setCell ⟨g1, 0, none⟩ (.string s)) := (B8.out.2.trans (bel_drewB w8 k _)).setCell (show w0.heap.size ≤ g1 from Nat.le_trans B7.out.2.size hg1.1) _
        exact ⟨B0.out.trans (h1.mono B0.out.size), h1⟩)
      clear hr hm hx8 ho hb8 hm1 hr8 hk8 hids ho1 hvi hg1 CA X7
      go_wp2_with fail
      go_quiet (fail)
      go_wp2_with fail
      clear d0 d1 z4
      refine (mtake_any HC.out w0.heap.size _ a _ 0 (HG.out.below (B9.out _).1) (B9.out _).2.size (X9.out _) (by decide)).mono ?_
      rintro e w10 ⟨⟨t2, b, ms', rfl, ht2, hp, hx⟩, hb10⟩
      obtain ⟨rfl, hm, rfl⟩ := take_ok (k := 0) hp rfl
      have B10 : Hid (Below w.heap.size w w10) := hide (B0.out.trans (((B9.out _).2.trans hb10).mono B0.out.size))
      obtain ⟨pi, ni, ci, pp, np, cp, p1, n1, c1, p2x, n2, c2x, p3, n3, c3, p4, n4, c4, p5, n5, c5, ei, ep, e1, e2, e3, e4, e5⟩ := Im.shape ht2
      have hids : t2.ids = ls := map_bl_inj (by have := ht2.ei; rw [hm] at this; exact this.symm)
      have hst := ht2.hi
      rw [hids, ei] at hst
      have hni : ni = N := by
        obtain ⟨q, k, e, -⟩ := hst
        injection e with _ e _
        rw [e, HN.out]
      subst hni
      obtain ⟨bq, oq, rfl, kq⟩ := ostrArg_at hst HX0.out
      obtain ⟨m, vi, vp, v1, v2, v3, v4, v5, ids, ts, l1, l2, l3, l4, l5⟩ := t2
      obtain rfl : m = ⟨1, 1, 2, 0, ls.map bl, [], Pol.zero⟩ := hm
      dsimp only at ei ep e1 e2 e3 e4 e5
      subst ei ep e1 e2 e3 e4 e5
      dsimp only [Im.val, Pol.zero]
      have kq2 := cell_keep kq (bel_alloc (Below.refl _ _) (.cells #[.int .i64 1, .int .i64 1, .int .i64 2, .int .i64 0, .slice (some ⟨bq, oq, none⟩) ni ci, .slice pp np cp, .int .i64 0, .slice p1 n1 c1, .slice p2x n2 c2x, .slice p3 n3 c3, .slice p4 n4 c4, .slice p5 n5 c5, .int .i64 0, .int .i64 0, .int .i64 0] 35))
      have kp2 := cell_keep kp0 (bel_alloc B10.out (.cells #[.int .i64 1, .int .i64 1, .int .i64 2, .int .i64 0, .slice (some ⟨bq, oq, none⟩) ni ci, .slice pp np cp, .int .i64 0, .slice p1 n1 c1, .slice p2x n2 c2x, .slice p3 n3 c3, .slice p4 n4 c4, .slice p5 n5 c5, .int .i64 0, .int .i64 0, .int .i64 0] 35))
      have B11 := hide (bel_alloc B10.out (.cells #[.int .i64 1, .int .i64 1, .int .i64 2, .int .i64 0, .slice (some ⟨bq, oq, none⟩) ni ci, .slice pp np cp, .int .i64 0, .slice p1 n1 c1, .slice p2x n2 c2x, .slice p3 n3 c3, .slice p4 n4 c4, .slice p5 n5 c5, .int .i64 0, .int .i64 0, .int .i64 0] 35))
      have hnn : decide ((ni : Int) = (ni : Int)) = true := decide_eq_true rfl
      clear hp hx hb10 ht2 hids hst kq X9 B9 B10 B8 kp
      go_wp2_with fail
      go_quiet (fail)
      go_wp2_with fail
      go_ret
      exact ⟨rfl, B11.out.trans (bel_drewB _ _ _)⟩
end Go.Proofs.YtmogplecohkjcaaGreatDoor
