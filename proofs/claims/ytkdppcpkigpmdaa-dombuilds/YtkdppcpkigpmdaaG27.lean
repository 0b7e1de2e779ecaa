/-
  dom.Build, walked.
-/
import Derived.Test.YtkdppcpkigpmdaaG26
namespace Go.Proofs.Ytkdppcpkigpmdaa
open Go.RowKit
open Utf1

/-- What Build leaves. -/
def BuildEnd (w w' : World) (l : List Te) (v : Value) (err : Int) : Prop :=
  (buildB (l.map Prod.fst) = none → v = .slice none 0 0 ∧ err = 5) ∧ ∀ ns, buildB (l.map Prod.fst) = some ns → err = 0 ∧ ∃ fp, KAt w' w.heap.size v ns fp

theorem build_none {l : List Te} {s : Bs} {e : Te} {rest : List Te} (h : runB (l.map Prod.fst) bs0 = runB ((e :: rest).map Prod.fst) s) (hn : ¬ ((takeB e.1 s).o ≤ 64 ∧ (takeB e.1 s).n ≤ 2000)) : buildB (l.map Prod.fst) = none := by
  unfold buildB
  rw [h]
  show Option.map treeB (if _ then _ else _) = none
  rw [if_neg hn]
  rfl
theorem build_step {l : List Te} {s : Bs} {e : Te} {rest : List Te} (h : runB (l.map Prod.fst) bs0 = runB ((e :: rest).map Prod.fst) s) (hn : (takeB e.1 s).o ≤ 64 ∧ (takeB e.1 s).n ≤ 2000) : runB (l.map Prod.fst) bs0 = runB (rest.map Prod.fst) (takeB e.1 s) := by
  rw [h]
  show (if _ then _ else _) = _
  rw [if_pos hn]

theorem make_one (w : World) : (Instr.makeSlice 25 (.int .i64 1) (.int .i64 1)).run Try.prog w = .ok (.slice (some ⟨w.heap.size, 0, none⟩) 1 1) (w.alloc (.cells #[.string ⟨#[]⟩, .slice none 0 0, .string ⟨#[]⟩, .slice none 0 0] 40)) := by kernel_rfl

set_option maxRecDepth 100000 in
set_option maxHeartbeats 8000000 in
theorem build_st (w : World) (v : Value) (l : List Te) (hl : TokRow w v l) (hlen : l.length ≤ 1000000000) (hsum : textSum l ≤ 100000000) (hnm : ∀ e ∈ l, e.1.name.length ≤ 281474976710656) (hcl : ∀ e ∈ l, Clones w w.heap.size (.slice e.2.1.1 e.2.1.2.1 e.2.1.2.2) e.1.attrs) :
    Calls Try.prog 11 #[v] w fun e w' => ∃ r err, e = .returned (.tuple #[r, .int .i64 err]) ∧ BuildEnd w w' l r err ∧ Below w.heap.size w w' := by
  obtain ⟨p, c, rfl, hcell⟩ := hl
  obtain ⟨w1, hw1⟩ : ∃ w1, w1 = ((w.alloc (.cells #[.string ⟨#[]⟩, .slice none 0 0, .string ⟨#[]⟩, .slice none 0 0] 40)).alloc (.cells #[.slice (some ⟨w.heap.size, 0, none⟩) 1 1, .pointer none, .slice none 0 0, .int .i64 0, .int .i64 0] 49)) := ⟨_, rfl⟩
  have HS1 := hide (new_sb w)
  rw [← hw1] at HS1
  have HB1 : Hid (Below w.heap.size w w1) := hide (by rw [hw1]; exact ((Below.refl _ _).alloc (Nat.le_refl _) _).alloc (by simp) _)
  obtain ⟨N, hN⟩ : ∃ N, N = l.length := ⟨_, rfl⟩
  rw [← hN] at hlen ⊢
  have HN := hide hN
  have HC := hide hcell
  have HCL := hide hcl
  have HNM := hide hnm
  clear hcell hcl hnm hN
  go_enter Try.func11, Try.ntmps11
  go_wp2_with fail
  rw [make_one]
  simp only [Result.andThen]
  rw [Oper.upon_value]
  go_wp2_with fail
  rw [← hw1]
  clear hw1
  go_loopg [12] N (fun k v wr => ∃ (j : Nat) (rest : List Te) (s : Bs), rest.length = k ∧ v = .int .i64 (j : Int) ∧ j + k = N ∧ Hid (∃ d, l = d ++ rest ∧ d.length = j) ∧ Hid (SB wr w.heap.size (w.heap.size + 1) s) ∧ Hid (Below w.heap.size w wr) ∧ Hid (Good s) ∧ s.o ≤ 64 ∧ s.n ≤ 2000 ∧ s.t.length + textSum rest ≤ 100000000 ∧ Hid (runB (l.map Prod.fst) bs0 = runB (rest.map Prod.fst) s))
  case atStart => exact ⟨0, l, bs0, HN.out.symm, rfl, by omega, hide ⟨[], rfl, rfl⟩, HS1, HB1, hide good0, by decide, by decide, by show 0 + _ ≤ _; omega, hide rfl⟩
  case round =>
    obtain ⟨j, rest, s, rfl, rfl, hjk, HD, HS, HB, HG, ho, hn, ht, HR⟩ := hrel
    clear HS1 HB1
    have hcs := HG.out.cnt
    have hrl := len_cnt s.r
    match rest, hjk, HD, ht, HR with
    | [], hjk, HD, ht, HR =>
      simp only [List.length_nil, Nat.add_zero] at hjk
      subst hjk
      have HCF := hide (closeFrom_st wr w.heap.size (w.heap.size + 1) 1 s.r s.t s.o s.n HS.out (Nat.le_refl _) (List.length_pos_iff.2 HG.out.ne) (by omega) (by omega))
      have hsg := shut_good HG.out (Nat.le_refl 1) (List.length_pos_iff.2 HG.out.ne)
      have HT : Hid (buildB (l.map Prod.fst) = some (treeB s)) := hide (by
        unfold buildB
        rw [HR.out]
        rfl)
      obtain ⟨nd, hnd⟩ : ∃ nd, (shutB 1 s).r = [nd] := List.length_eq_one_iff.1 hsg.2.2
      have HTR : Hid (treeB s = (textIn nd (shutB 1 s).t).kids) := hide (by
        unfold treeB
        rw [hnd])
      have hcn := hsg.1.cnt
      rw [hnd] at hcn
      have hcn : cntN nd + 0 + tx (shutB 1 s).t = s.n + 1 := hcn
      have hkn := cntN_kids nd
      have hlk := len_cnt nd.kids
      have HCF : Hid (Calls Try.prog 23 #[.pointer (some ⟨w.heap.size + 1, 0, none⟩), .int .i64 1] wr fun e w' => e = .returned (.tuple #[]) ∧ St w' w.heap.size (w.heap.size + 1) ([] ++ [nd]) (shutB 1 s).t s.o s.n ∧ Below w.heap.size wr w') := hide (by
        refine HCF.out.mono ?_
        rintro e w' ⟨rfl, m1, m2⟩
        refine ⟨rfl, ?_, m2⟩
        have m1 : St w' w.heap.size (w.heap.size + 1) (shutB 1 s).r.reverse (shutB 1 s).t s.o s.n := m1
        rw [hnd] at m1
        exact m1)
      have HET : Hid (∀ wx, St wx w.heap.size (w.heap.size + 1) ([] ++ [nd]) (shutB 1 s).t s.o s.n → Calls Try.prog 24 #[.pointer (some ⟨w.heap.size + 1, 0, none⟩)] wx fun e w' => e = .returned (.tuple #[]) ∧ St w' w.heap.size (w.heap.size + 1) ([] ++ [textIn nd (shutB 1 s).t]) [] s.o s.n ∧ Below w.heap.size wx w') := hide (fun wx hx => endText_st wx w.heap.size (w.heap.size + 1) [] nd (shutB 1 s).t s.o s.n hx (by simp) (by omega) (by have := hsg.2.1; omega))
      clear hcs hrl hsg hnd hcn hkn hlk HR HD HS HG
      go_wp2_with fail
      refine HCF.out.mono ?_
      rintro e w2 ⟨rfl, m1, m2⟩
      have HE2 := hide (HET.out w2 m1)
      have HB2 := hide (HB.out.trans m2)
      clear m1 m2 HCF HET HB
      go_wp2_with fail
      refine HE2.out.mono ?_
      rintro e w3 ⟨rfl, m1, m2⟩
      obtain ⟨pa, bv, h0, _⟩ := m1
      obtain ⟨go, oc, kp, km, kc, fp, b0, k3, hkat⟩ := root_facts h0
      have HK : Hid (BuildEnd w w3 l (.slice kp km kc) 0 ∧ Below w.heap.size w w3) := hide (by
        refine ⟨⟨fun e => absurd (HT.out.symm.trans e) (by simp), ?_⟩, HB2.out.trans m2⟩
        intro ns e
        rw [HT.out, HTR.out] at e
        cases e
        exact ⟨rfl, fp, hkat⟩)
      clear h0 m2 hkat HE2 HB2 HT HTR
      go_wp2_with fail
      try rw [Exit.noGoto_ret]
      go_ret2
      exact ⟨_, _, rfl, HK.out⟩
    | e :: rest, hjk, HD, ht, HR =>
      have hjN : j < N := by simp only [List.length_cons] at hjk; omega
      have hge : l[j]? = some e := by
        obtain ⟨d, e1, e2⟩ := HD.out
        rw [e1, ← e2, List.getElem?_append_right (Nat.le_refl _), Nat.sub_self]
        rfl
      have hmem : e ∈ l := List.mem_of_getElem? hge
      obtain ⟨g, off, hp, x0, x1, x2, x3, x4⟩ := HC.out j e hge
      subst hp
      obtain ⟨⟨kind, name, attrs, text⟩, ⟨ap, am, ac⟩, cl⟩ := e
      simp only [] at x0 x1 x2 x3 x4
      have x0 := cell_keep x0 HB.out
      have x1 := cell_keep x1 HB.out
      have x2 := cell_keep x2 HB.out
      have x3 := cell_keep x3 HB.out
      have x4 := cell_keep x4 HB.out
      have hnl := HNM.out _ hmem
      have hcl := (HCL.out _ hmem).on HB.out
      simp only [] at hnl hcl
      have ht2 : s.t.length + (text.length + textSum rest) ≤ 100000000 := ht
      obtain ⟨XN, hXN⟩ : ∃ X : ByteArray, X = ⟨name.toArray⟩ := ⟨_, rfl⟩
      obtain ⟨XT, hXT⟩ : ∃ X : ByteArray, X = ⟨text.toArray⟩ := ⟨_, rfl⟩
      have hbn : bl XN = name := by rw [hXN]
      have hbt : bl XT = text := by rw [hXT]
      have hsn : XN.size = name.length := by rw [hXN]; rfl
      have hst : XT.size = text.length := by rw [hXT]; rfl
      rw [← hXN] at x1
      rw [← hXT] at x4
      obtain ⟨w2, hw2⟩ : ∃ w2, w2 = wr.alloc (.cells #[.int .i64 kind, .string XN, .slice ap am ac, .bool cl, .string XT] 36) := ⟨_, rfl⟩
      have hb2 : Below wr.heap.size wr w2 := by rw [hw2]; exact (Below.refl _ _).alloc (Nat.le_refl _) _
      have hb2w : Below w.heap.size wr w2 := hb2.mono HS.out.base
      have y0 : w2.cell? ⟨wr.heap.size, 0, none⟩ = some (.int .i64 kind) := by rw [hw2, new_cell]; rfl
      have y1 : w2.cell? ⟨wr.heap.size, 1, none⟩ = some (.string XN) := by rw [hw2, new_cell]; rfl
      have y2 : w2.cell? ⟨wr.heap.size, 2, none⟩ = some (.slice ap am ac) := by rw [hw2, new_cell]; rfl
      have y3 : w2.cell? ⟨wr.heap.size, 3, none⟩ = some (.bool cl) := by rw [hw2, new_cell]; rfl
      have y4 : w2.cell? ⟨wr.heap.size, 4, none⟩ = some (.string XT) := by rw [hw2, new_cell]; rfl
      have HTK := hide (take_st w2 w.heap.size (w.heap.size + 1) s kind XN XT cl ap am ac attrs (St.under HS.out hb2) HG.out (by omega) (by omega) (by omega) (by omega) (hcl.on hb2w))
      have HB2 := hide (HB.out.trans hb2w)
      have HTG := hide (take_good HG.out ⟨kind, name, attrs, text⟩)
      have HTO := hide (take_o HG.out ⟨kind, name, attrs, text⟩)
      have HST := hide (fun hh => build_step HR.out hh)
      have HNO := hide (fun hh => build_none HR.out hh)
      rw [hbn, hbt] at HTK
      have HD2 : Hid (∃ d, l = d ++ rest ∧ d.length = j + 1) := hide (by
        obtain ⟨d, e1, e2⟩ := HD.out
        exact ⟨d ++ [(⟨kind, name, attrs, text⟩, (ap, am, ac), cl)], by rw [e1]; simp, by simp [e2]⟩)
      simp only [] at HST HNO
      obtain ⟨s2, hs2⟩ : ∃ s2, s2 = takeB ⟨kind, name, attrs, text⟩ s := ⟨_, rfl⟩
      rw [← hs2] at HTK HTG HTO HST HNO
      have hjk2 : j + (rest.length + 1) = N := hjk
      have HT2 : Hid (s2.t.length + textSum rest ≤ 100000000) := hide (by have := HTG.out.2; simp only [] at this; omega)
      have hs2o := HTO.out
      clear hcl hnl hmem hge HD HR HS hb2 hb2w HB hcs hrl HTO hs2 hbn hbt hXN hXT hsn hst ht ht2 hjk
      go_upto_region 5 with fail
      rw [← hw2]
      clear hw2 x0 x1 x2 x3 x4
      go_wp2_with fail
      refine HTK.out.mono ?_
      rintro e w3 ⟨rfl, m1, m2⟩
      have HS3 := hide m1
      have HB3 := hide (HB2.out.trans m2)
      clear m1 m2 HTK HB2 y0 y1 y2 y3 y4
      go_wp2_with fail
      obtain ⟨pa, bv, h0, hw⟩ := HS3.out
      obtain ⟨ov, hB⟩ := h0.bb
      have c3 : w3.drew.cell? ⟨w.heap.size + 1, 3, none⟩ = some (.int .i64 (s2.o : Int)) := tag_cell hB 3 _ rfl
      have c4 : w3.drew.cell? ⟨w.heap.size + 1, 4, none⟩ = some (.int .i64 (s2.n : Int)) := tag_cell hB 4 _ rfl
      have hbd : Below w3.heap.size w3 w3.drew := bel_one _
      have HB3d := hide (HB3.out.trans (hbd.mono HS3.out.base))
      have HS3d : Hid (SB w3.drew w.heap.size (w.heap.size + 1) s2) := hide (St.under HS3.out hbd)
      have HSZ := hide HS3d.out.base
      clear h0 hw hB HB3 HS3 hbd
      refine wp_region_any (by kernel_rfl) ?_
      try (change wpAny _ _ _ _ _ _ _ (World.drew _))
      refine wpAny_to (i := 0) (v := .pointer (some ⟨w.heap.size + 1, 0, none⟩)) (a' := ?ax0q1) rfl (by kernel_rfl) (by kernel_rfl) (by kernel_rfl) (fun _ _ _ h => h) (Or.inl ⟨by rfl, ?yi⟩) ?ha ?_
      case yi => intro w; go_simp
      case ha => go_simp; try exact rfl
      refine wpAny_to (i := 1) (v := .pointer (some ⟨w.heap.size + 1, 0, none⟩)) (a' := ?ax1q2) rfl (by kernel_rfl) (by kernel_rfl) (by kernel_rfl) (fun _ _ _ h => h) (Or.inl ⟨by rfl, ?yi⟩) ?ha ?_
      case yi => intro w; go_simp
      case ha => go_simp; try exact rfl
      refine wpAny_to (i := 2) (v := .pointer (some ⟨w.heap.size + 1, 3, none⟩)) (a' := ?ax2q3) rfl (by kernel_rfl) (by kernel_rfl) (by kernel_rfl) (fun _ _ _ h => h) (Or.inl ⟨by rfl, ?yi⟩) ?ha ?_
      case yi => intro w; go_simp
      case ha => go_simp; try exact rfl
      refine wpAny_to (i := 4) (v := .pointer (some ⟨w.heap.size + 1, 0, none⟩)) (a' := ?ax4q4) rfl (by kernel_rfl) (by kernel_rfl) (by kernel_rfl) (fun _ _ _ h => h) (Or.inl ⟨by rfl, ?yi⟩) ?ha ?_
      case yi => intro w; go_simp
      case ha => go_simp; try exact rfl
      refine wpAny_to (i := 5) (v := .pointer (some ⟨w.heap.size + 1, 0, none⟩)) (a' := ?ax5q5) rfl (by kernel_rfl) (by kernel_rfl) (by kernel_rfl) (fun _ _ _ h => h) (Or.inl ⟨by rfl, ?yi⟩) ?ha ?_
      case yi => intro w; go_simp
      case ha => go_simp; try exact rfl
      refine wpAny_to (i := 6) (v := .pointer (some ⟨w.heap.size + 1, 3, none⟩)) (a' := ?ax6q6) rfl (by kernel_rfl) (by kernel_rfl) (by kernel_rfl) (fun _ _ _ h => h) (Or.inl ⟨by rfl, ?yi⟩) ?ha ?_
      case yi => intro w; go_simp
      case ha => go_simp; try exact rfl
      refine wpAny_ready (rs := [3, 7]) (by kernel_rfl) (by simp) ?_
      refine AllReady.cons rfl (fun K hK => ?_) (AllReady.cons rfl (fun K hK => ?_) AllReady.nil)
      · go_simp
        go_wp2_with fail
        refine wpAny_ready (rs := [7]) (by kernel_rfl) (by simp) ?_
        refine AllReady.cons rfl (fun K hK => ?_) AllReady.nil
        go_simp
        go_wp2_with fail
        refine wpAny_ready (rs := [8]) (by kernel_rfl) (by simp) ?_
        refine AllReady.cons rfl (fun K hK => ?_) AllReady.nil
        go_simp
        go_wp2_with fail
        refine (capped_any s2.o s2.n _).mono ?_
        rintro e w4 ⟨rfl, hb4⟩
        have c3 := cell_keep c3 hb4
        have c4 := cell_keep c4 hb4
        have HB4 := hide (HB3d.out.trans (hb4.mono HSZ.out))
        have HS4 : Hid (SB w4 w.heap.size (w.heap.size + 1) s2) := hide (St.under HS3d.out hb4)
        clear hb4 HB3d HS3d HSZ
        go_wp2_with fail
        refine wpAny_ready (rs := [9]) (by kernel_rfl) (by simp) ?_
        refine AllReady.cons rfl (fun K hK => ?_) AllReady.nil
        go_simp
        by_cases hcap : s2.o ≤ 64 ∧ s2.n ≤ 2000
        · rw [if_pos (show (s2.o : Int) = min (s2.o : Int) 64 by omega), if_pos (show (s2.n : Int) = min (s2.n : Int) 2000 by omega)]
          rw [Oper.upon_value]
          refine hK _ _ ?_
          clear hK K
          refine wpAny_done (by kernel_rfl) ?_ _
          go_wp2_with fail
          go_roundg rest.length
          case measure => simp only [List.length_cons]; omega
          case rel => exact ⟨j + 1, rest, s2, rfl, by first | rfl | simp, by omega, HD2, HS4, HB4, hide HTG.out.1, hcap.1, hcap.2, HT2.out, hide (HST.out hcap)⟩
        · rw [show (if (s2.o : Int) = min (s2.o : Int) 64 then if (s2.n : Int) = min (s2.n : Int) 2000 then Result.ok (Next.value (Value.bool false)) w4 else Result.ok (Next.value (Value.bool true)) w4 else Result.ok (Next.value (Value.bool true)) w4) = Result.ok (Next.value (Value.bool true)) w4 by
            split
            · split
              · exact absurd (show s2.o ≤ 64 ∧ s2.n ≤ 2000 by omega) hcap
              · rfl
            · rfl]
          rw [Oper.upon_value]
          refine hK _ _ ?_
          clear hK K
          refine wpAny_done (by kernel_rfl) ?_ _
          have HX := hide (HNO.out hcap)
          go_wp2_with fail
          try rw [Exit.noGoto_ret]
          go_ret2
          exact ⟨_, _, rfl, ⟨fun _ => ⟨rfl, rfl⟩, fun ns e => absurd (HX.out.symm.trans e) (by simp)⟩, HB4.out⟩
      · go_simp
        go_wp2_with fail
        refine wpAny_ready (rs := [3, 8]) (by kernel_rfl) (by simp) ?_
        refine AllReady.cons rfl (fun K hK => ?_) (AllReady.cons rfl (fun K hK => ?_) AllReady.nil)
        · go_simp
          go_wp2_with fail
          refine wpAny_ready (rs := [8]) (by kernel_rfl) (by simp) ?_
          refine AllReady.cons rfl (fun K hK => ?_) AllReady.nil
          go_simp
          go_wp2_with fail
          refine (capped_any s2.o s2.n _).mono ?_
          rintro e w4 ⟨rfl, hb4⟩
          have c3 := cell_keep c3 hb4
          have c4 := cell_keep c4 hb4
          have HB4 := hide (HB3d.out.trans (hb4.mono HSZ.out))
          have HS4 : Hid (SB w4 w.heap.size (w.heap.size + 1) s2) := hide (St.under HS3d.out hb4)
          clear hb4 HB3d HS3d HSZ
          go_wp2_with fail
          refine wpAny_ready (rs := [9]) (by kernel_rfl) (by simp) ?_
          refine AllReady.cons rfl (fun K hK => ?_) AllReady.nil
          go_simp
          by_cases hcap : s2.o ≤ 64 ∧ s2.n ≤ 2000
          · rw [if_pos (show (s2.o : Int) = min (s2.o : Int) 64 by omega), if_pos (show (s2.n : Int) = min (s2.n : Int) 2000 by omega)]
            rw [Oper.upon_value]
            refine hK _ _ ?_
            clear hK K
            refine wpAny_done (by kernel_rfl) ?_ _
            go_wp2_with fail
            go_roundg rest.length
            case measure => simp only [List.length_cons]; omega
            case rel => exact ⟨j + 1, rest, s2, rfl, by first | rfl | simp, by omega, HD2, HS4, HB4, hide HTG.out.1, hcap.1, hcap.2, HT2.out, hide (HST.out hcap)⟩
          · rw [show (if (s2.o : Int) = min (s2.o : Int) 64 then if (s2.n : Int) = min (s2.n : Int) 2000 then Result.ok (Next.value (Value.bool false)) w4 else Result.ok (Next.value (Value.bool true)) w4 else Result.ok (Next.value (Value.bool true)) w4) = Result.ok (Next.value (Value.bool true)) w4 by
              split
              · split
                · exact absurd (show s2.o ≤ 64 ∧ s2.n ≤ 2000 by omega) hcap
                · rfl
              · rfl]
            rw [Oper.upon_value]
            refine hK _ _ ?_
            clear hK K
            refine wpAny_done (by kernel_rfl) ?_ _
            have HX := hide (HNO.out hcap)
            go_wp2_with fail
            try rw [Exit.noGoto_ret]
            go_ret2
            exact ⟨_, _, rfl, ⟨fun _ => ⟨rfl, rfl⟩, fun ns e => absurd (HX.out.symm.trans e) (by simp)⟩, HB4.out⟩
        · go_simp
          go_wp2_with fail
          refine (capped_any s2.o s2.n _).mono ?_
          rintro e w4 ⟨rfl, hb4⟩
          have c3 := cell_keep c3 hb4
          have c4 := cell_keep c4 hb4
          have HB4 := hide (HB3d.out.trans (hb4.mono HSZ.out))
          have HS4 : Hid (SB w4 w.heap.size (w.heap.size + 1) s2) := hide (St.under HS3d.out hb4)
          clear hb4 HB3d HS3d HSZ
          go_wp2_with fail
          refine wpAny_ready (rs := [3]) (by kernel_rfl) (by simp) ?_
          refine AllReady.cons rfl (fun K hK => ?_) AllReady.nil
          go_simp
          go_wp2_with fail
          refine wpAny_ready (rs := [9]) (by kernel_rfl) (by simp) ?_
          refine AllReady.cons rfl (fun K hK => ?_) AllReady.nil
          go_simp
          by_cases hcap : s2.o ≤ 64 ∧ s2.n ≤ 2000
          · rw [if_pos (show (s2.o : Int) = min (s2.o : Int) 64 by omega), if_pos (show (s2.n : Int) = min (s2.n : Int) 2000 by omega)]
            rw [Oper.upon_value]
            refine hK _ _ ?_
            clear hK K
            refine wpAny_done (by kernel_rfl) ?_ _
            go_wp2_with fail
            go_roundg rest.length
            case measure => simp only [List.length_cons]; omega
            case rel => exact ⟨j + 1, rest, s2, rfl, by first | rfl | simp, by omega, HD2, HS4, HB4, hide HTG.out.1, hcap.1, hcap.2, HT2.out, hide (HST.out hcap)⟩
          · rw [show (if (s2.o : Int) = min (s2.o : Int) 64 then if (s2.n : Int) = min (s2.n : Int) 2000 then Result.ok (Next.value (Value.bool false)) w4 else Result.ok (Next.value (Value.bool true)) w4 else Result.ok (Next.value (Value.bool true)) w4) = Result.ok (Next.value (Value.bool true)) w4 by
              split
              · split
                · exact absurd (show s2.o ≤ 64 ∧ s2.n ≤ 2000 by omega) hcap
                · rfl
              · rfl]
            rw [Oper.upon_value]
            refine hK _ _ ?_
            clear hK K
            refine wpAny_done (by kernel_rfl) ?_ _
            have HX := hide (HNO.out hcap)
            go_wp2_with fail
            try rw [Exit.noGoto_ret]
            go_ret2
            exact ⟨_, _, rfl, ⟨fun _ => ⟨rfl, rfl⟩, fun ns e => absurd (HX.out.symm.trans e) (by simp)⟩, HB4.out⟩
end Go.Proofs.Ytkdppcpkigpmdaa
