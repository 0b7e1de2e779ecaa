/-
  Package dev, walked: Append and Bytes.
-/
import Derived.Test.YtipebinjdicnfaaDV2
import Derived.Maps.AppendAt
namespace Go.Proofs.Ytipebinjdicnfaa
open Go.RowKit

theorem Keep.bytes {w w' : World} {F : List Nat} {v : Value} {l : List UInt8} (h : Keep w w' F) (hv : IsBytes w v l) (hF : l ≠ [] → ∀ k, v.ownBlock = some k → k ∉ F) : IsBytes w' v l := by
  rcases hv with hv | ⟨x, cap, rfl, hc⟩
  · exact .inl hv
  · refine .inr ⟨x, cap, rfl, fun j hj => ?_⟩
    rw [← hc j hj]
    refine World.cell?_of_block ?_
    rw [add_block]
    have := cell_lt (hc j hj)
    rw [add_block] at this
    exact h.block _ this (hF (fun e => by subst e; exact absurd hj (by simp)) _ rfl)

/-- Bytes behind a row of one's own. -/
theorem wpList_append_bytes {w : World} {ops : Array Oper} {rest : List Oper} {o : Oper} {a : Act} {Q : Exit → Act → World → Prop} (hgd : o.guard = none) (s x : Operand)
    (ho : o.op = .call { callee := .builtin .append, args := #[s, x], argTypes := #[38, 38] })
    (base : Nat) (v : Value) (xs : List UInt8) (hs : a.eval s = v) (hown : w.ownsRow base 5 1 v xs.length (Lib.byteCells xs))
    (u : Value) (l : List UInt8) (hx : a.eval x = u) (hl : IsBytes w u l) (h63 : xs.length + l.length ≤ 100000000) (hbase : base ≤ w.heap.size)
    (h : ∀ v' w', w'.ownsRow base 5 1 v' (xs.length + l.length) (Lib.byteCells (xs ++ l)) → w.grownBy w' v.ownBlock → (v'.ownBlock = v.ownBlock ∨ v'.ownBlock = some w.heap.size) → wpList Try.prog ops Q rest (a.put o.dst v') w') : wpList Try.prog ops Q (o :: rest) a w := by
  obtain ⟨i0, hi, hz0, hz1, hz2⟩ := info_parts infoByte
  rcases hl with ⟨rfl, rfl⟩ | ⟨ad, cap, rfl, hc⟩
  · refine wpList_append_own_none hgd s x 38 ho base 5 i0 1 Try.underlying38 hi v xs.length _ hs hown hx ?_
    refine h v w ?_ ⟨rfl, rfl, rfl, Nat.le_refl _, fun _ _ _ => rfl⟩ (.inl rfl)
    rw [List.append_nil]
    exact hown
  · refine wpList_append_own_at w hgd s x 38 ho base 5 i0 _ 1 1 Try.underlying38 hi hz0 hz1 hz2 rfl (by decide) v xs.length _ hs hown ad l.length cap (Lib.byteCells l) hx (by rw [byte_len, Nat.mul_one]) (fun j u hj => ?_) (byte_one l) (by unfold maxLen; omega) (by omega) hbase fun v' w' h1 h2 _ h3 => h v' w' ?_ h2 h3
    · have hjl : j < l.length := by
        rw [← byte_len l]
        exact (List.getElem?_eq_some_iff.1 hj).1
      rw [hc j hjl, ← byte_at l j hjl]
      exact hj
    · rw [byte_app]
      exact h1

set_option maxHeartbeats 2000000 in
theorem append_any (w : World) (B : Nat) (s : Dv) (F : List Nat) (v : Value) (l : List UInt8) (h : DevIn w B s F) (hv : IsBytes w v l) (hvF : l ≠ [] → ∀ k, v.ownBlock = some k → k ∉ F) (hvl : l.length ≤ 140737488355328) :
    Calls Try.prog 24 #[.pointer (some ⟨B, 0, none⟩), v] w fun e w' => e = .returned (.int .i64 (s.app l).2) ∧ Left w w' B (s.app l).1 F := by
  have hg := goes_any w B s F h
  have HD := hide h
  have HV := hide hv
  have HVF := hide hvF
  obtain ⟨vp, vc, rfl⟩ := hv.slice
  obtain ⟨av, hb, ho, hk, hz⟩ := h
  have hal := hk.2.1
  clear hz hk hv hvF
  obtain ⟨p, c, rfl⟩ := own_len ho
  have c3 : w.cell? ⟨B, 3, none⟩ = some (.bool s.off) := tag_cell hb 3 _ rfl
  have c0 : w.cell? ⟨B, 0, none⟩ = some (.slice p s.all.length c) := tag_cell hb 0 _ rfl
  have HG := hide hg
  clear hb hg ho
  cases hoff : s.off with
  | true =>
    rw [hoff] at c3
    have HF := hide hoff
    clear hoff
    go_enter Try.func24, Try.ntmps24
    go_wp2_with fail
    go_ret
    have hs : s.app l = (s, 11) := by unfold Dv.app; rw [if_pos HF.out]
    rw [hs]
    exact ⟨rfl, Left.refl HD.out⟩
  | false =>
    rw [hoff] at c3
    have HF := hide hoff
    clear hoff
    by_cases h0 : 60000 < s.all.length + l.length
    · have e0 : decide ((60000 : Int) - (s.all.length : Int) < (l.length : Int)) = true := by simp; omega
      have H0 := hide h0
      clear h0
      go_enter Try.func24, Try.ntmps24
      go_wp2_with fail
      go_ret
      have hs : s.app l = (s, 10) := by unfold Dv.app; rw [if_neg (by rw [HF.out]; decide), if_pos H0.out]
      rw [hs]
      exact ⟨rfl, Left.refl HD.out⟩
    · have e0 : decide ((60000 : Int) - (s.all.length : Int) < (l.length : Int)) = false := by simp; omega
      have HS : Hid (s.app l = if s.goes.off then (s.goes, 11) else (⟨s.all ++ l, s.wt + l.length, s.goes.lf, false⟩, 0)) := hide (by unfold Dv.app; rw [if_neg (by rw [HF.out]; decide), if_neg h0])
      cases hgo : s.goes.off with
      | true =>
        have HF2 := hide hgo
        rw [hgo] at HG
        clear hgo
        go_enter Try.func24, Try.ntmps24
        go_wp2_with (go_at_call 37; refine HG.out.mono ?_; rintro e w1 ⟨rfl, hl⟩; have HL := hide hl; clear hl)
        go_ret
        rw [HS.out, if_pos HF2.out]
        exact ⟨rfl, HL.out⟩
      | false =>
        have HF2 := hide hgo
        rw [hgo] at HG
        clear hgo
        have H0 := hide h0
        go_enter Try.func24, Try.ntmps24
        go_wp2_with (go_at_call 37; refine HG.out.mono ?_)
        rintro e w1 ⟨rfl, F1, ⟨av1, hb1, ho1, hk1, hF1⟩, hn1, hp1⟩
        obtain ⟨p1, c1, rfl⟩ := own_len ho1
        rw [s.goes_same.1] at ho1 hF1 hb1
        have d0 : w1.cell? ⟨B, 0, none⟩ = some (.slice p1 s.all.length c1) := tag_cell hb1 0 _ rfl
        have hbl : B < w1.heap.size := lt_of_block hb1
        have hne : ∀ k, (Value.slice p1 s.all.length c1).ownBlock = some k → k ≠ B := fun k hk e => own_apart ho1 hb1 (by decide) (by rw [hk, e])
        have HB1 := hide hb1
        have HO1 := hide ho1
        have HK1 := hide hk1
        have HF1 := hide hF1
        have HN1 := hide hn1
        have HP1 := hide hp1
        have HNE := hide hne
        have HBV : Hid (IsBytes w1 (.slice vp l.length vc) l) := hide (hp1.bytes HV.out HVF.out)
        clear hb1 ho1 hk1 hF1 hn1 hp1 hne
        go_wp2_with (at_builtin; refine wpList_append_bytes rfl _ _ rfl 0 (.slice p1 s.all.length c1) s.all rfl HO1.out (.slice vp l.length vc) l rfl HBV.out (by omega) (Nat.zero_le _) ?_)
        intro v2 w2 ho2 hg2 hat2
        have hb2 : DB w2 B (.slice p1 s.all.length c1) s.goes := (hg2.block B hbl (fun e => HNE.out B e.symm rfl)).trans HB1.out
        have e2 : w2.cell? ⟨B, 0, none⟩ = some (.slice p1 s.all.length c1) := tag_cell hb2 0 _ rfl
        have g0 := tag_free hb2 0
        have g1 := tag_free (tok_set hb2 0 v2) 1
        have e1 : (w2.setCell ⟨B, 0, none⟩ v2).cell? ⟨B, 1, none⟩ = some (.int .i64 (s.wt : Int)) := tag_cell (tok_set hb2 0 v2) 1 _ (by rw [s.goes_same.2]; rfl)
        obtain ⟨p2, c2, rfl⟩ := own_len ho2
        have hw1 : s.wt ≤ 60000 := by have := HK1.out; unfold Dv.ok at this; rw [s.goes_same.1, s.goes_same.2] at this; omega
        have e5 : IntKind.i64.wrap ((s.wt : Int) + (l.length : Int)) = (s.wt : Int) + (l.length : Int) := IntWalk.i64_in _ (by omega)
        have HX : Hid (Left w (((w2.setCell ⟨B, 0, none⟩ (.slice p2 (s.all.length + l.length) c2)).setCell ⟨B, 1, none⟩ (.int .i64 ((s.wt : Int) + (l.length : Int)))).drew) B ⟨s.all ++ l, s.wt + l.length, s.goes.lf, false⟩ F) := hide (by
          have hm : B ∈ F1 := by rw [HF1.out]; exact List.mem_cons_self ..
          refine ⟨_, ⟨.slice p2 (s.all.length + l.length) c2, ?_, ?_, ?_, rfl⟩, ?_, ?_⟩
          · have h := tok_set (tok_set hb2 0 (.slice p2 (s.all.length + l.length) c2)) 1 (.int .i64 ((s.wt : Int) + (l.length : Int)))
            rw [HF2.out] at h
            exact h
          · show World.ownsRow _ 0 5 1 _ (s.all ++ l).length _
            rw [List.length_append]
            exact (own_set (own_set ho2 hb2 (by decide) 0 _) (tok_set hb2 0 _) (by decide) 1 _).drew
          · have h := HK1.out
            unfold Dv.ok at h ⊢
            rw [s.goes_same.1, s.goes_same.2] at h
            have := H0.out
            refine ⟨?_, ?_, h.2.2⟩
            · show s.wt + l.length ≤ (s.all ++ l).length
              rw [List.length_append]
              omega
            · show (s.all ++ l).length ≤ 60000
              rw [List.length_append]
              omega
          · refine HN1.out.trans HP1.out.size ?_
            intro k hk
            rw [HF1.out]
            rcases List.mem_cons.1 hk with rfl | hk
            · exact .inl (List.mem_cons_self ..)
            · rw [mem_blk] at hk
              rcases hat2 with h | h
              · exact .inl (List.mem_cons_of_mem _ (mem_blk.2 (by rw [← h]; exact hk)))
              · rw [hk] at h
                injection h with h
                exact .inr (by omega)
          · refine HP1.out.trans HN1.out ((((Keep.refl w1 F1).grown hg2 (fun k hk => .inl ?_)).set (p := ⟨B, 0, none⟩) hm _).set (p := ⟨B, 1, none⟩) hm _).drew
            rw [HF1.out]
            exact List.mem_cons_of_mem _ (mem_blk.2 hk))
        obtain ⟨NA, hNA⟩ : ∃ NA, NA = s.all.length + l.length := ⟨_, rfl⟩
        rw [← hNA] at e1 g1 HX
        try rw [← hNA]
        clear ho2 hg2 hat2 hb2 hw1 hNA
        go_wp2_with fail
        go_region
        go_wp2_with fail
        go_ret
        rw [HS.out, if_neg (by rw [HF2.out]; decide)]
        exact ⟨rfl, HX.out⟩

/-- What a call of Bytes gives: a new row. -/
def NewBytes (w w' : World) (l : List UInt8) : Prop := w'.heap[w.heap.size]? = some (.cells (Lib.byteCells l).toArray 5 (0, 0)) ∧ Below w.heap.size w w'
theorem copy_new (w : World) (u : Value) (l : List UInt8) (h : IsBytes w u l) : ∃ w2, (Builtin.copy_ #[38, 38] 3 #[.slice (some ⟨w.heap.size, 0, none⟩) l.length l.length, u]).run Try.prog (w.alloc (.cells (madeCells #[.int .u8 0] l.length) 5)) = .ok (.int .i64 (l.length : Int)) w2 ∧ NewBytes w w2 l := by
  have hb1 := (Below.refl _ w).alloc (Nat.le_refl _) (.cells (madeCells #[.int .u8 0] l.length) 5)
  have h' := h.below hb1
  rcases h' with ⟨rfl, rfl⟩ | ⟨ad, cap, rfl, hc⟩
  · refine ⟨_, run_copy_none _ 38 38 3 5 _ _ _ _ _ _ Try.underlying38 (by kernel_rfl) rfl, ?_, hb1⟩
    rw [heap_alloc_new]
    simp [madeCells, Lib.byteCells]
  · have hr := run_copy_row (P := Try.prog) (w.alloc (.cells (madeCells #[.int .u8 0] l.length) 5)) 38 38 3 5 w.heap.size 0 l.length l.length ad l.length cap (madeCells #[.int .u8 0] l.length) 5 (Lib.byteCells l) Try.underlying38 (by kernel_rfl) (heap_alloc_new w _) (by rw [byte_len]; exact (Nat.min_self _).symm) (fun j u hj => ?_) (by rw [byte_len, size_madeCells]; omega) (byte_one l)
    · refine ⟨_, by rw [hr, byte_len]; rfl, ?_, ?_⟩
      · rw [setRow_heap _ w.heap.size _ _ 5 (0, 0) (heap_alloc_new w _)]
        have : (madeCells #[Value.int .u8 0] l.length).toList.drop (0 + l.length) = [] := by
          rw [List.drop_eq_nil_iff, Array.length_toList, size_madeCells]
          omega
        rw [this]
        simp
      · exact below_setRow hb1 (Nat.le_refl _) _
    · have hjl : j < l.length := by
        rw [← byte_len l]
        exact (List.getElem?_eq_some_iff.1 hj).1
      rw [hc j hjl, ← byte_at l j hjl]
      exact hj

theorem bytes_any (w : World) (B : Nat) (s : Dv) (F : List Nat) (h : DevIn w B s F) :
    Calls Try.prog 21 #[.pointer (some ⟨B, 0, none⟩)] w fun e w' => e = .returned (.slice (some ⟨w.heap.size, 0, none⟩) s.all.length s.all.length) ∧ NewBytes w w' s.all := by
  obtain ⟨i0, hi, hz0, hz1, hz2⟩ := info_parts infoByte
  obtain ⟨av, hb, ho, hk, hz⟩ := h
  have hal := hk.2.1
  clear hz hk
  obtain ⟨p, c, rfl⟩ := own_len ho
  have c0 : w.cell? ⟨B, 0, none⟩ = some (.slice p s.all.length c) := tag_cell hb 0 _ rfl
  have c0' : ∀ o, (w.alloc o).cell? ⟨B, 0, none⟩ = some (.slice p s.all.length c) := fun o => cell_keep c0 ((Below.refl _ w).alloc (Nat.le_refl _) o)
  obtain ⟨w2, hcp, hx⟩ := copy_new w _ _ (own_bytes ho)
  have HX := hide hx
  clear hb ho hx
  go_enter Try.func21, Try.ntmps21
  go_wp2_with (refine wpList_make_row _ rfl _ _ 38 rfl 5 i0 (.int .u8 0) Try.underlying38 hi hz0 hz1 rfl .i64 .i64 s.all.length rfl rfl (by rw [hz2]; omega) (by omega) ?_)
  go_ret
  exact ⟨rfl, HX.out⟩
end Go.Proofs.Ytipebinjdicnfaa
