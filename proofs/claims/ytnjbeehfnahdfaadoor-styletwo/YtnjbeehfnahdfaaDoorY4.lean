/-
  style.Filter's closure, at every name and value.
-/
import Derived.Test.YtnjbeehfnahdfaaDoorY3
import Derived.OwnWalk
namespace Go.Proofs.YtnjbeehfnahdfaaDoor
open Go.RowKit Go.WideMaps
open Utf1 Sty

theorem infoSet : (Tryd.prog.info? 36).map (fun i => (i.zero, i.size, i.bytes)) = some (some (.agg #[.string ⟨#[]⟩, .string ⟨#[]⟩]), 2, 32) := by kernel_rfl
theorem two_new (w : World) (a b : Value) (t : TypeId) : ∀ j u, [a, b][j]? = some u → (w.alloc (.cells #[a, b] t)).cell? ((⟨w.heap.size, 0, none⟩ : Addr).add j) = some u := by
  intro j u h
  rw [add_plain, Nat.zero_add]
  match j, h with
  | 0, h => simp at h; subst h; simp
  | 1, h => simp at h; subst h; simp
  | j + 2, h => simp at h

/-- A part that stays: what is laid into the map and appended. -/
theorem inv_push {Hb : Nat} {v u u' : Value} {st : List NV} {D : DataW Unit} {w w1 w2 : World} (x : NV) (tmp : Obj)
    (hpb : w.heap[Hb]? = some (.cells #[v] 22 (0, 0))) (hmb : w.heap[Hb + 3]? = some (.cells #[.map (some (Hb + 2))] 32 (0, 0)))
    (hsb : w.heap[Hb + 1]? = some (.cells #[u] 31 (0, 0))) (hown : w.ownsRow (Hb + 4) 36 2 u st.length (rowV st))
    (hD : Maps.IsMap D) (hok : DOk D st)
    (hmap1 : w1.ownsMap Tryd.prog 9 (plainElem Tryd.prog 3) (Hb + 2) (st.length + 1) (D.put (.string x.1) (.lit (.int .i64 (st.length : Int))))) (hg1 : w.grownBy w1 (some (Hb + 2)))
    (hown2 : w2.ownsRow (Hb + 4) 36 2 u' (st.length + 1) (rowV st ++ [.string ⟨x.1.toArray⟩, .string ⟨x.2.toArray⟩])) (hg2 : (w1.alloc tmp).grownBy w2 u.ownBlock) :
    (∃ g c, u' = .slice (some ⟨g, 0, none⟩) (st.length + 1) c) ∧ w2.cell? ⟨Hb + 1, 0, none⟩ = some u ∧ w2.frozen? ⟨Hb + 1, 0, none⟩ = false ∧ Inv Hb v (st ++ [x]) (w2.setCell ⟨Hb + 1, 0, none⟩ u') ∧ Below Hb w (w2.setCell ⟨Hb + 1, 0, none⟩ u') := by
  have hlt := lt_of_block hmb
  have hne : ∀ k, k < Hb + 4 → some k ≠ u.ownBlock := fun k hk e => by
    rcases hown.2 with ⟨rfl, _⟩ | ⟨g, cap, cur, rfl, hg, hh, _⟩
    · simp [Value.ownBlock] at e
    · simp only [Value.ownBlock, Option.some.injEq] at e
      omega
  have keep1 : ∀ k, k < w.heap.size → k ≠ Hb + 2 → w1.heap[k]? = w.heap[k]? := fun k hk h => hg1.block k hk (by intro e; injection e with e; exact h e)
  have hs1 := hg1.size
  have keep2 : ∀ k, k < Hb + 4 → k < w1.heap.size → w2.heap[k]? = w1.heap[k]? := fun k hk hk' =>
    (hg2.block k (by simp; omega) (hne k hk)).trans (Below.heap_alloc _ _ _ hk')
  have hpb2 : w2.heap[Hb]? = some (.cells #[v] 22 (0, 0)) := (keep2 Hb (by omega) (by omega)).trans ((keep1 Hb (by omega) (by omega)).trans hpb)
  have hsb2 : w2.heap[Hb + 1]? = some (.cells #[u] 31 (0, 0)) := (keep2 (Hb + 1) (by omega) (by omega)).trans ((keep1 (Hb + 1) (by omega) (by omega)).trans hsb)
  have hmb2 : w2.heap[Hb + 3]? = some (.cells #[.map (some (Hb + 2))] 32 (0, 0)) := (keep2 (Hb + 3) (by omega) (by omega)).trans ((keep1 (Hb + 3) (by omega) (by omega)).trans hmb)
  have hne' : u'.ownBlock ≠ some (Hb + 1) := fun e => by
    rcases hown2.2 with ⟨rfl, _⟩ | ⟨g, cap, cur, rfl, hg, hh, _⟩
    · simp [Value.ownBlock] at e
    · simp only [Value.ownBlock, Option.some.injEq] at e
      omega
  have hex : ∃ g c, u' = .slice (some ⟨g, 0, none⟩) (st.length + 1) c := by
    rcases hown2.2 with ⟨_, h0⟩ | ⟨g', cap', _, h, _⟩
    · omega
    · exact ⟨g', cap', h⟩
  refine ⟨hex, cell_of_one hsb2, free_of_one hsb2, ⟨?_, ⟨u', one_setCell hsb2, ?_⟩, ?_, ?_⟩, ?_⟩
  · exact (Below.heap_setCell _ _ _ _ (by show Hb ≠ Hb + 1; omega)).trans hpb2
  · have := ownsRow_setCell_other hown2 (a := ⟨Hb + 1, 0, none⟩) hne' u'
    rw [rowV_app, List.length_append]
    exact this
  · exact (Below.heap_setCell _ _ _ _ (by show Hb + 3 ≠ Hb + 1; omega)).trans hmb2
  · refine ⟨_, ?_, hD.put _ _, hok.put hD x⟩
    rw [List.length_append]
    exact ownsMap_setCell_other ((hmap1.alloc tmp).kept hg2 (hne (Hb + 2) (by omega))) (by show Hb + 2 ≠ Hb + 1; omega) _
  · have b1 : Below Hb w w1 := (Below.refl Hb w).grown hg1 (by omega) (fun j hj => by injection hj with hj; omega)
    exact ((b1.alloc (by omega) tmp).grown hg2 (by simp; omega) (fun k hk => by
      rcases Nat.lt_or_ge k (Hb + 4) with h | h
      · exact absurd hk.symm (hne k h)
      · omega)).setCell (by show Hb ≤ Hb + 1; omega) _

set_option maxRecDepth 100000 in
set_option maxHeartbeats 4000000 in
theorem tell_any (Hb : Nat) (v : Value) (ss : List ByteArray) (st : List NV) (N V : ByteArray) (w : World) (hi : Inv Hb v st w) (hv : StrArg w v ss) (hN : N.size ≤ 100000) (hV : V.size ≤ 100000) (hst : st.length ≤ 100000) (hl : ss.length ≤ 100000) :
    Calls Tryd.prog 16 #[.string N, .string V, .pointer (some ⟨Hb, 0, none⟩), .pointer (some ⟨Hb + 1, 0, none⟩), .pointer (some ⟨Hb + 3, 0, none⟩)] w fun e w' => e = .returned (.tuple #[]) ∧ Inv Hb v (st ++ [(bl N, bl V)].filter (keep (ss.map bl))) w' ∧ Below Hb w w' := by
  have c1 := fun w => value_any V (by omega) w
  have c2 : ∀ wx, wx = w → Calls Tryd.prog 17 #[v, .string N] wx fun e w' => e = .returned (.bool (decide (bl N ∈ ss.map bl))) ∧ w' = wx := fun wx hx => by subst hx; exact contains_any N v ss hl _ hv
  obtain ⟨R1, hR1⟩ : ∃ R, R = okv (bl V) := ⟨_, rfl⟩
  obtain ⟨R2, hR2⟩ : ∃ R, R = decide (bl N ∈ ss.map bl) := ⟨_, rfl⟩
  rw [← hR1] at c1
  rw [← hR2] at c2
  have HK : Hid (keep (ss.map bl) (bl N, bl V) = (R2 && R1)) := hide (by unfold keep; rw [hR1, hR2])
  clear hR1 hR2
  have HC2 := hide c2
  clear c2
  have hi0 := hi
  obtain ⟨hpb, ⟨u, hsb, hown⟩, hmb, D, hmap, hD, hok⟩ := hi
  have cP := cell_of_one hpb
  have cS := cell_of_one hsb
  have cM := cell_of_one hmb
  have HI := hide hi0
  clear hi0
  cases R1 with
  | false =>
    have HF : Hid (st ++ [(bl N, bl V)].filter (keep (ss.map bl)) = st) := hide (by rw [List.filter_cons, HK.out]; simp)
    clear HK HC2 hpb hsb hmb hmap hD hok hown
    rw [HF.out]
    go_enter Tryd.func16, Tryd.ntmps16
    go_wp2_with fail
    refine (c1 _).mono ?_
    rintro e w1 ⟨rfl, rfl⟩
    go_wp2_with fail
    go_end0
    exact ⟨rfl, HI.out, Below.refl _ _⟩
  | true =>
    cases R2 with
    | false =>
      have HF : Hid (st ++ [(bl N, bl V)].filter (keep (ss.map bl)) = st) := hide (by rw [List.filter_cons, HK.out]; simp)
      clear HK hpb hsb hmb hmap hD hok hown
      rw [HF.out]
      go_enter Tryd.func16, Tryd.ntmps16
      go_wp2_with fail
      refine (c1 _).mono ?_
      rintro e w1 ⟨rfl, rfl⟩
      go_wp2_with fail
      refine (HC2.out _ rfl).mono ?_
      rintro e w1 ⟨rfl, rfl⟩
      go_wp2_with fail
      go_end0
      exact ⟨rfl, HI.out, Below.refl _ _⟩
    | true =>
      have HF : Hid (st ++ [(bl N, bl V)].filter (keep (ss.map bl)) = st ++ [(bl N, bl V)]) := hide (by rw [List.filter_cons, HK.out]; simp)
      rw [HF.out]
      clear HF HK HI
      have hkey : keyOf Tryd.prog 9 (.string N) = some (.string (bl N)) := keyOf_string_mk Tryd.underlying9 (by unfold maxLen; omega)
      obtain ⟨i0, hi, hz0, hz1, hz2⟩ := info_parts infoSet
      obtain ⟨sp, sc, rfl⟩ : ∃ sp sc, u = .slice sp st.length sc := by
        rcases hown.2 with ⟨rfl, h0⟩ | ⟨g, cap, cur, rfl, _⟩
        · exact ⟨none, 0, by rw [h0]⟩
        · exact ⟨_, _, rfl⟩
      have HPB := hide hpb
      have HSB := hide hsb
      have HMB := hide hmb
      have HOW := hide hown
      have HD := hide hD
      have HOK := hide hok
      obtain ⟨n, hn⟩ : ∃ n, n = st.length := ⟨_, rfl⟩
      have HN := hide hn
      rw [← hn] at hst cS hmap
      have HMAP := hide hmap
      clear hpb hsb hmb hown hD hok hn hmap
      go_enter Tryd.func16, Tryd.ntmps16
      go_wp2_with fail
      refine (c1 _).mono ?_
      rintro e w1 ⟨rfl, rfl⟩
      go_wp2_with fail
      refine (HC2.out _ rfl).mono ?_
      rintro e w1 ⟨rfl, rfl⟩
      clear HC2 c1
      go_wp2_with (at_mapUpdate; refine wpList_mapUpdate_own _ rfl _ _ _ 32 rfl 9 3 (Maps.string_keyed Tryd.underlying9) Tryd.underlying32 _ (Hb + 2) n _ rfl HMAP.out (by unfold maxLen; omega) _ _ _ rfl rfl hkey _ [] (plainElem_int Tryd.underlying3 (WalkArith.wf_i64 (by omega))) ?_)
      intro w2 hmap1 hg1
      have HM1 := hide hmap1
      have HG1 := hide hg1
      have cS1 : w2.cell? ⟨Hb + 1, 0, none⟩ = some (.slice sp n sc) := by
        rw [HN.out]
        exact cell_of_one ((hg1.block (Hb + 1) (lt_of_block HSB.out) (fun e => by have := Option.some.inj e; omega)).trans HSB.out)
      clear hmap1 hg1 cS cM cP hkey HMAP
      have HOW1 : Hid ((w2.alloc (.cells #[.string N, .string V] 36)).ownsRow (Hb + 4) 36 2 (.slice sp n sc) n (rowV st)) := hide (by
        rw [HN.out]
        refine (HOW.out.kept HG1.out ?_).alloc _
        rcases HOW.out.2 with ⟨e, _⟩ | ⟨g, cap, cur, e, hg, _⟩
        · left; rw [e]; rfl
        · right; rw [e]; intro h; simp only [Value.ownBlock, Option.some.injEq] at h; omega)
      have HSZ : Hid (Hb + 4 ≤ (w2.alloc (.cells #[.string N, .string V] 36)).heap.size) := hide (by
        have h1 := lt_of_block HMB.out
        have h2 := HG1.out.size
        simp
        omega)
      go_wp2_with (at_builtin; refine wpList_append_own _ rfl _ _ 31 rfl (Hb + 4) 36 i0 _ 2 32 Tryd.underlying31 hi hz0 hz1 hz2 rfl (by decide) (.slice sp n sc) n (rowV st) rfl HOW1.out ⟨w2.heap.size, 0, none⟩ 1 1 [.string N, .string V] rfl rfl (two_new _ _ _ _) (by simp [Value.oneCell']) (by unfold maxLen; omega) (by omega) HSZ.out ?_)
      intro u' w3 hown3 hg3 _
      have HP := hide (inv_push (v := v) (bl N, bl V) _ HPB.out HMB.out HSB.out HOW.out HD.out HOK.out (by rw [← HN.out]; exact HM1.out) HG1.out (u' := u') (w2 := w3) (by rw [← HN.out]; exact hown3) (by rw [← HN.out]; exact hg3))
      clear hown3 hg3
      obtain ⟨⟨g, c, hu⟩, cS3, fS3, -⟩ := HP.out
      rw [← HN.out] at hu cS3
      subst hu
      go_wp2_with fail
      go_end0
      exact ⟨rfl, HP.out.2.2.2⟩
end Go.Proofs.YtnjbeehfnahdfaaDoor
