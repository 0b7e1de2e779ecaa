/-
  The document's Build.
-/
import Derived.Test.YtkdppcpkigpmdaaR29
import Derived.Test.YtkdppcpkigpmdaaTArg
namespace Go.Proofs.Ytkdppcpkigpmdaa
open Go.RowKit
open Utf1

theorem tree_flat {s : Bs} {fl : List Fl} {op : List Nat} (h : Rel s.r s.t fl op) (hg : Good s) : fl.map Fl.fa = flatL (treeB s) (-1) 0 := by
  have hpos : 0 < s.r.length := List.length_pos_iff.2 hg.ne
  have hr := rel_shut (s.r.length - 1) s.r s.t fl op (by omega) h
  have gs := shut_good hg (Nat.le_refl 1) hpos
  obtain ⟨nd, hnd⟩ := List.length_eq_one_iff.1 gs.2.2
  have hr : Rel (shutB 1 s).r (shutB 1 s).t fl _ := hr
  unfold treeB
  rw [hnd] at hr ⊢
  exact hr.fl
theorem new_fb (w : World) : FBs (w.alloc (.cells #[.slice none 0 0, .slice none 0 0, .bool false] 57)) w.heap.size w.heap.size ⟨[], [], false⟩ := ⟨Nat.le_refl _, by simp, .slice none 0 0, .slice none 0 0, heap_alloc_new _ _, World.ownsRow_nil _ _ _ _, World.ownsRow_nil _ _ _ _⟩
theorem rel0 : Rel bs0.r bs0.t [] [] := ⟨rfl, rfl⟩

/-- How far the document's builder is. -/
def Far (w wr : World) (R : Nat) (l rest : List Te) : Prop :=
  (∃ (s : Bs) (u : Fs), FBs wr R R u ∧ Rel s.r s.t u.fl u.op ∧ u.bad = false ∧ Good s ∧ Fi (s.o + 1) s.r ∧ s.o ≤ 64 ∧ s.n ≤ 2000 ∧ s.t.length + textSum rest ≤ 6000 ∧ AttrsOk w u.fl ∧ runB (l.map Prod.fst) bs0 = runB (rest.map Prod.fst) s) ∨ (∃ u : Fs, FBs wr R R u ∧ u.bad = true ∧ buildB (l.map Prod.fst) = none)

set_option maxRecDepth 100000 in
set_option maxHeartbeats 8000000 in
theorem rbuild_st (w : World) (v : Value) (l : List Te) (hl : TokArg w v l) (hw : tokWs l < 6000) (hnm : ∀ e ∈ l, e.1.kind = 2 → e.1.name ≠ []) :
    Calls Try.prog 12 #[v] w fun e w' => ∃ q m c, e = .returned (.tuple #[.slice q m c, .int .i64 (if (buildB (l.map Prod.fst)).isSome then 0 else 5)]) ∧ (∃ fp, RAt w w' w.heap.size (.slice q m c) ((buildB (l.map Prod.fst)).getD []) fp) ∧ Below w.heap.size w w' := by
  obtain ⟨p, c, rfl, hcell⟩ := id hl.1
  obtain ⟨f1, f2, f3⟩ := light_facts l hw
  have HC := hide hcell
  have HA := hide (fun e he => (hl.2.2 e he).1)
  have HNM := hide hnm
  obtain ⟨R, hR⟩ : ∃ R, R = w.heap.size := ⟨_, rfl⟩
  obtain ⟨w1, hw1⟩ : ∃ w1, w1 = w.alloc (.cells #[.slice none 0 0, .slice none 0 0, .bool false] 57) := ⟨_, rfl⟩
  have HF1 := hide (new_fb w)
  rw [← hw1, ← hR] at HF1
  have HB1 : Hid (Below w.heap.size w w1) := hide (by rw [hw1]; exact (Below.refl _ _).alloc (Nat.le_refl _) _)
  obtain ⟨N, hN⟩ : ∃ N, N = l.length := ⟨_, rfl⟩
  rw [← hN] at f1 ⊢
  obtain ⟨E, hE⟩ : ∃ E : Int, E = if (buildB (l.map Prod.fst)).isSome then 0 else 5 := ⟨_, rfl⟩
  rw [← hE]
  obtain ⟨T, hT⟩ : ∃ T, T = (buildB (l.map Prod.fst)).getD [] := ⟨_, rfl⟩
  rw [← hT]
  have HE := hide (And.intro hE hT)
  have HN := hide hN
  have HR := hide hR
  have HFAR : Hid (Far w w1 R l l) := hide (.inl ⟨bs0, ⟨[], [], false⟩, HF1.out, rel0, rfl, good0, fi0, by decide, by decide, by show 0 + textSum l ≤ 6000; omega, (fun f hf => by cases hf), rfl⟩)
  clear hcell hl hw hnm hN hE hT f2 f3 HF1
  go_enter Try.func12, Try.ntmps12
  go_wp2_with fail
  rw [← hw1, ← hR]
  clear hw1 hR
  go_loopg [5] N (fun k v5 wr => ∃ (j : Nat) (rest : List Te), rest.length = k ∧ v5 = .int .i64 (j : Int) ∧ j + k = N ∧ Hid (∃ d, l = d ++ rest ∧ d.length = j) ∧ Hid (Far w wr R l rest) ∧ Hid (Below w.heap.size w wr))
  case atStart => exact ⟨0, l, HN.out.symm, rfl, by omega, hide ⟨[], rfl, rfl⟩, HFAR, HB1⟩
  case round =>
    obtain ⟨j, rest, rfl, rfl, hjk, HD, HFA, HB⟩ := hrel
    clear HFAR HB1
    rcases HFA.out with ⟨s, u, g1, g2, g3, g4, g5, g6, g7, g8, g9, g10⟩ | ⟨u, g1, g2, g3⟩
    case inr =>
      obtain ⟨lp, lc, pp, pc, hRB, -, -⟩ := FB.reads g1
      have c2 : wr.cell? ⟨R, 2, none⟩ = some (.bool u.bad) := tag_cell hRB 2 _ rfl
      rw [g2] at c2
      have hE5 : E = 5 ∧ T = [] := by
        rw [HE.out.1, HE.out.2, g3]
        exact ⟨rfl, rfl⟩
      obtain ⟨rfl, rfl⟩ := hE5
      clear hRB g1 g2 g3 HFA HE HC HA HNM
      by_cases hj : j < N
      · have hd : decide ((j : Int) < (N : Int)) = true := decide_eq_true (by omega)
        go_wp2_with fail
        try rw [Exit.noGoto_ret]
        go_ret2
        exact ⟨_, _, _, rfl, ⟨[], RAt.empty _ _ _⟩, HB.out⟩
      · have hd : decide ((j : Int) < (N : Int)) = false := decide_eq_false (by omega)
        go_wp2_with fail
        try rw [Exit.noGoto_ret]
        go_ret2
        exact ⟨_, _, _, rfl, ⟨[], RAt.empty _ _ _⟩, HB.out⟩
    case inl =>
      obtain ⟨lp, lc, pp, pc, hRB, -, -⟩ := FB.reads g1
      have c2 : wr.cell? ⟨R, 2, none⟩ = some (.bool u.bad) := tag_cell hRB 2 _ rfl
      rw [g3] at c2
      clear hRB
      match rest, hjk, HD, g8, g10 with
      | [], hjk, HD, g8, g10 =>
        simp only [List.length_nil, Nat.add_zero] at hjk
        have hnj : ¬ ((j : Int) < (N : Int)) := by omega
        have hd : decide ((j : Int) < (N : Int)) = false := decide_eq_false hnj
        have hbu : buildB (l.map Prod.fst) = some (treeB s) := by
          unfold buildB
          rw [g10]
          rfl
        have hE0 : E = 0 ∧ T = treeB s := by
          rw [HE.out.1, HE.out.2, hbu]
          exact ⟨rfl, rfl⟩
        obtain ⟨rfl, rfl⟩ := hE0
        have hfi := (build_fine hbu).1
        have hlen := rel_len g2 g4.ne
        have hcnt := g4.cnt
        have HK := hide (kids_st w R R u g9 (by omega) _ wr (treeB s) (-1) 0 [] [] false false false (Nat.le_refl _) g1 (by rw [tree_flat g2 g4]; simp) rfl (by decide) (fun f hf => by cases hf) hfi)
        have hwz : w.heap.size ≤ wr.heap.size := HB.out.size
        clear g1 g2 g3 g4 g5 g6 g7 g8 g9 g10 HFA HE HC HA HNM hfi hlen hcnt hbu
        go_wp2_with fail
        refine HK.out.mono ?_
        rintro e w2 ⟨q, m, cc, fp, rfl, m1, m2, m3⟩
        have HEE := hide (And.intro (m1.low hwz) (HB.out.trans (m3.mono hwz)))
        clear m1 m2 m3 HK HB
        go_wp2_with fail
        try rw [Exit.noGoto_ret]
        go_ret2
        exact ⟨q, m, cc, rfl, ⟨fp, HEE.out.1⟩, HEE.out.2⟩
      | e :: rest, hjk, HD, g8, g10 =>
        have hjN : j < N := by simp only [List.length_cons] at hjk; omega
        have hd : decide ((j : Int) < (N : Int)) = true := decide_eq_true (by omega)
        have hge : l[j]? = some e := by
          obtain ⟨d, e1, e2⟩ := HD.out
          rw [e1, ← e2, List.getElem?_append_right (Nat.le_refl _), Nat.sub_self]
          rfl
        have hmem : e ∈ l := List.mem_of_getElem? hge
        obtain ⟨g, off, hp, x0, x1, x2, x3, x4⟩ := HC.out j e hge
        subst hp
        have hatt := HA.out e hmem
        have hnme := HNM.out e hmem
        obtain ⟨⟨kind, name, attrs, text⟩, ⟨ap, am, ac⟩, cl⟩ := e
        simp only [] at x0 x1 x2 x3 x4 hatt hnme
        have hgt : s.t.length + (text.length + textSum rest) ≤ 6000 := g8
        replace x0 := cell_keep x0 HB.out
        replace x1 := cell_keep x1 HB.out
        replace x2 := cell_keep x2 HB.out
        replace x3 := cell_keep x3 HB.out
        replace x4 := cell_keep x4 HB.out
        obtain ⟨XN, hXN⟩ : ∃ X : ByteArray, X = ⟨name.toArray⟩ := ⟨_, rfl⟩
        obtain ⟨XT, hXT⟩ : ∃ X : ByteArray, X = ⟨text.toArray⟩ := ⟨_, rfl⟩
        have hbn : bl XN = name := by rw [hXN]
        have hbt : bl XT = text := by rw [hXT]
        have hst : XT.size = text.length := by rw [hXT]; rfl
        rw [← hXN] at x1
        rw [← hXT] at x4
        have HTK := hide (rtake_sim w wr R R s u kind XN XT cl ap am ac attrs g1 g2 g3 g4 g5 g6 g7 (by omega) (fun h => by rw [hbn]; exact hnme h) hatt g9)
        rw [hbn, hbt] at HTK
        have HTG := hide (take_good g4 ⟨kind, name, attrs, text⟩)
        have HTF := hide (take_fi g4 ⟨kind, name, attrs, text⟩ g5 g6)
        have HST := hide (fun hh => build_step g10 hh)
        have HNO := hide (fun hh => build_none g10 hh)
        simp only [] at HST HNO
        obtain ⟨s2, hs2⟩ : ∃ s2, s2 = takeB ⟨kind, name, attrs, text⟩ s := ⟨_, rfl⟩
        rw [← hs2] at HTK HTG HTF HST HNO
        have HT2 : Hid (s2.t.length + textSum rest ≤ 6000) := hide (by have := HTG.out.2; simp only [] at this; omega)
        have HD2 : Hid (∃ d, l = d ++ rest ∧ d.length = j + 1) := hide (by
          obtain ⟨d, e1, e2⟩ := HD.out
          exact ⟨d ++ [(⟨kind, name, attrs, text⟩, (ap, am, ac), cl)], by rw [e1]; simp, by simp [e2]⟩)
        have HRW : Hid (w.heap.size ≤ R) := hide (by rw [HR.out]; exact Nat.le_refl _)
        have hjk2 : j + (rest.length + 1) = N := hjk
        clear g1 g2 g3 g4 g5 g6 g7 g8 g9 g10 HFA hatt hnme hmem hge HD hXN hXT hbn hbt hst hgt hs2 hjk
        go_wp2_with fail
        refine HTK.out.mono ?_
        rintro e w3 ⟨rfl, ⟨u', m1, m2, m3, m4⟩, m5⟩
        have HF3 : Hid (Far w w3 R l rest) := hide (by
          by_cases hcap : s2.o ≤ 64 ∧ s2.n ≤ 2000
          · left
            exact ⟨s2, u', m1, m2, by rw [m3]; exact decide_eq_false (fun h => h hcap), HTG.out.1, HTF.out, hcap.1, hcap.2, HT2.out, m4, HST.out hcap⟩
          · right
            exact ⟨u', m1, by rw [m3]; exact decide_eq_true hcap, HNO.out hcap⟩)
        have HB3 := hide (HB.out.trans (m5.b.mono HRW.out))
        clear m1 m2 m3 m4 m5 HTK HTG HTF HST HNO HT2 HB HRW x0 x1 x2 x3 x4 c2
        go_wp2_with fail
        go_roundg rest.length
        case measure => simp only [List.length_cons]; omega
        case rel => exact ⟨j + 1, rest, rfl, by first | rfl | simp, by omega, HD2, HF3, HB3⟩
end Go.Proofs.Ytkdppcpkigpmdaa
