/-
  The document's device, walked: Bytes.
-/
import Derived.Test.YtipebinjdicnfaaDR1
namespace Go.Proofs.Ytipebinjdicnfaa
open Go.RowKit

/-- Bytes behind a row of one's own, at a step of a region that draws its order. -/
theorem run_append_bytes (w : World) (ty base : Nat) (v : Value) (xs : List UInt8) (hown : w.ownsRow base 5 1 v xs.length (Lib.byteCells xs)) (u : Value) (l : List UInt8) (hl : IsBytes w u l) (h63 : xs.length + l.length ≤ 100000000) (hbase : base ≤ w.heap.size) :
    ∃ v' w', (Builtin.append_ #[38, 38] ty #[v, u]).run Try.prog w = .ok v' w' ∧ w'.ownsRow base 5 1 v' (xs.length + l.length) (Lib.byteCells (xs ++ l)) ∧ w.grownBy w' v.ownBlock ∧ (v'.ownBlock = v.ownBlock ∨ v'.ownBlock = some w.heap.size) := by
  obtain ⟨i0, hi, hz0, hz1, hz2⟩ := info_parts infoByte
  rcases hl with ⟨rfl, rfl⟩ | ⟨ad, cap, rfl, hc⟩
  · refine ⟨v, w, run_append_owned_none w base 38 ty 5 i0 1 Try.underlying38 hi v xs.length _ hown, ?_, ⟨rfl, rfl, rfl, Nat.le_refl _, fun _ _ _ => rfl⟩, .inl rfl⟩
    rw [List.append_nil]
    exact hown
  · obtain ⟨v', w', h0, h1, h2, _, h3⟩ := run_append_own_at w base 38 ty 5 i0 _ 1 1 Try.underlying38 hi hz0 hz1 hz2 rfl (by decide) v xs.length _ hown ad l.length cap (Lib.byteCells l) (by rw [byte_len, Nat.mul_one]) (fun j u hj => by
      have hjl : j < l.length := by
        rw [← byte_len l]
        exact (List.getElem?_eq_some_iff.1 hj).1
      rw [hc j hjl, ← byte_at l j hjl]
      exact hj) (byte_one l) (by unfold maxLen; omega) (by omega) hbase
    refine ⟨v', w', h0, ?_, h2, h3⟩
    rw [byte_app]
    exact h1
theorem step_append_bytes {ops : Array Oper} {o : Oper} {a : Act} {w : World} {K : Act → World → Prop} {Q : Exit → Act → World → Prop} {E : Prop}
    (hg : o.guard = none) (s x : Operand) (hop : o.op = Op.call { callee := Callee.builtin Builtin.append, args := #[s, x], argTypes := #[38, 38] })
    (base : Nat) (v : Value) (xs : List UInt8) (hs : a.eval s = v) (hown : w.ownsRow base 5 1 v xs.length (Lib.byteCells xs))
    (u : Value) (l : List UInt8) (hx : a.eval x = u) (hl : IsBytes w u l) (h63 : xs.length + l.length ≤ 100000000) (hbase : base ≤ w.heap.size)
    (hK : ∀ v' w', w'.ownsRow base 5 1 v' (xs.length + l.length) (Lib.byteCells (xs ++ l)) → w.grownBy w' v.ownBlock → (v'.ownBlock = v.ownBlock ∨ v'.ownBlock = some w.heap.size) → K (a.put o.dst v') w') :
    if Region.wanted o (yielded ops a.tmps) = true then Oper.wp Try.prog o a w K Q else E := by
  have hw : Region.wanted o (yielded ops a.tmps) = true := by simp [Region.wanted, hg]
  rw [if_pos hw]
  obtain ⟨v', w', hrun, r1, r2, r3⟩ := run_append_bytes w o.type base v xs hown u l hl h63 hbase
  unfold Oper.wp
  simp [execOp, hop, resolve, invoke, builtin, hs, hx, hrun, Result.andThen]
  exact hK v' w' r1 r2 r3

set_option maxHeartbeats 2000000 in
theorem rbytes_any (w : World) (B : Nat) (s : Rv) (F : List Nat) (h : RefIn w B s F) :
    Calls Try.prog 22 #[.pointer (some ⟨B, 0, none⟩)] w fun e w' => ∃ v, e = .returned v ∧ w'.ownsRow w.heap.size 5 1 v (s.la ++ s.wa).length (Lib.byteCells (s.la ++ s.wa)) ∧ Below w.heap.size w w' := by
  obtain ⟨lv, wv, hb, hl, hw, _, hk, _⟩ := h
  have h6 := hk.1
  obtain ⟨lp, lc, rfl⟩ := own_len hl
  obtain ⟨wp, wc, rfl⟩ := own_len hw
  have c0 : w.cell? ⟨B, 0, none⟩ = some (.slice lp s.la.length lc) := tag_cell hb 0 _ rfl
  have c1 : w.cell? ⟨B, 1, none⟩ = some (.slice wp s.wa.length wc) := tag_cell hb 1 _ rfl
  have SK : Hid (∀ wx, Below w.heap.size w wx → wx.cell? ⟨B, 0, none⟩ = some (.slice lp s.la.length lc) ∧ wx.cell? ⟨B, 1, none⟩ = some (.slice wp s.wa.length wc)) := hide (fun wx h => ⟨cell_keep c0 h, cell_keep c1 h⟩)
  have HB0 : Hid (Below w.heap.size w (w.drew.alloc (.cells #[] 5))) := hide ((bel_one w).trans ((Below.refl _ w.drew).alloc (Nat.le_refl _) _))
  have HL := hide hl
  have HW := hide hw
  clear hb hl hw hk
  go_enter Try.func22, Try.ntmps22
  go_wp2_with fail
  refine wp_region_held_drew (S := (fun wx => wx.cell? ⟨B, 0, none⟩ = some (.slice lp s.la.length lc) ∧ wx.cell? ⟨B, 1, none⟩ = some (.slice wp s.wa.length wc))) (by kernel_rfl) (SK.out _ (bel_one w)) (fun hHeld => ?_)
  refine wpAnyH_at (i := 1) (v := ?vb1) (a1 := ?xb1) rfl (by kernel_rfl) (by kernel_rfl) (by kernel_rfl) (fun _ _ _ h => h) (Or.inl ⟨by rfl, ?yb1⟩) (by assumption) ?hb1 ?zb1
  case yb1 => (intro w hSw; (try dsimp only at hSw); go_simp; try (with_reducible rfl))
  case hb1 => (go_simp; exact rfl)
  case zb1 =>
  refine wpAnyH_at (i := 2) (v := ?vb2) (a1 := ?xb2) rfl (by kernel_rfl) (by kernel_rfl) (by kernel_rfl) (fun _ _ _ h => h) (Or.inl ⟨by rfl, ?yb2⟩) (by assumption) ?hb2 ?zb2
  case yb2 => (intro w hSw; (try dsimp only at hSw); go_simp; try (with_reducible rfl))
  case hb2 => (go_simp; exact rfl)
  case zb2 =>
  refine wpAnyH_at (i := 3) (v := ?vb3) (a1 := ?xb3) rfl (by kernel_rfl) (by kernel_rfl) (by kernel_rfl) (fun _ _ _ h => h) (Or.inl ⟨by rfl, ?yb3⟩) (by assumption) ?hb3 ?zb3
  case yb3 => (intro w hSw; (try dsimp only at hSw); go_simp; try (with_reducible rfl))
  case hb3 => (go_simp; exact rfl)
  case zb3 =>
  refine wpAnyH_at (i := 4) (v := ?vb4) (a1 := ?xb4) rfl (by kernel_rfl) (by kernel_rfl) (by kernel_rfl) (fun _ _ _ h => h) (Or.inl ⟨by rfl, ?yb4⟩) (by assumption) ?hb4 ?zb4
  case yb4 => (intro w hSw; (try dsimp only at hSw); go_simp; try (with_reducible rfl))
  case hb4 => (go_simp; exact rfl)
  case zb4 =>
  refine wpAnyH_at (i := 6) (v := ?vb6) (a1 := ?xb6) rfl (by kernel_rfl) (by kernel_rfl) (by kernel_rfl) (fun _ _ _ h => h) (Or.inl ⟨by rfl, ?yb6⟩) (by assumption) ?hb6 ?zb6
  case yb6 => (intro w hSw; (try dsimp only at hSw); go_simp; try (with_reducible rfl))
  case hb6 => (go_simp; exact rfl)
  case zb6 =>
  refine wpAnyH_at (i := 7) (v := ?vb7) (a1 := ?xb7) rfl (by kernel_rfl) (by kernel_rfl) (by kernel_rfl) (fun _ _ _ h => h) (Or.inl ⟨by rfl, ?yb7⟩) (by assumption) ?hb7 ?zb7
  case yb7 => (intro w hSw; (try dsimp only at hSw); go_simp; try (with_reducible rfl))
  case hb7 => (go_simp; exact rfl)
  case zb7 =>
  refine wpAnyH_at (i := 8) (v := ?vb8) (a1 := ?xb8) rfl (by kernel_rfl) (by kernel_rfl) (by kernel_rfl) (fun _ _ _ h => h) (Or.inl ⟨by rfl, ?yb8⟩) (by assumption) ?hb8 ?zb8
  case yb8 => (intro w hSw; (try dsimp only at hSw); go_simp; try (with_reducible rfl))
  case hb8 => (go_simp; exact rfl)
  case zb8 =>
  refine wpAnyH_at (i := 9) (v := ?vb9) (a1 := ?xb9) rfl (by kernel_rfl) (by kernel_rfl) (by kernel_rfl) (fun _ _ _ h => h) (Or.inl ⟨by rfl, ?yb9⟩) (by assumption) ?hb9 ?zb9
  case yb9 => (intro w hSw; (try dsimp only at hSw); go_simp; try (with_reducible rfl))
  case hb9 => (go_simp; exact rfl)
  case zb9 =>
  refine wpAnyH_ready (rs := [0]) (by kernel_rfl) (by simp) ?_
  refine AllReadyH.cons rfl (fun K hK => ?_) AllReadyH.nil
  go_simp
  try go_wp2_with fail
  refine hK.out _ _ (by first | exact SK.out _ HB2.out | exact SK.out _ HB1.out | exact SK.out _ HB0.out) (fun hHeld2 => ?_)
  clear hK K hHeld
  have hHeld := hHeld2
  clear hHeld2
  refine wpAnyH_ready (rs := [5]) (by kernel_rfl) (by simp) ?_
  refine AllReadyH.cons rfl (fun K hK => ?_) AllReadyH.nil
  refine step_append_bytes rfl _ _ rfl w.heap.size (.slice (some ⟨w.heap.size, 0, none⟩) 0 0) [] rfl (World.ownsRow_made w.drew _ 0 (Nat.le_refl _) (by decide) rfl) (.slice lp s.la.length lc) s.la rfl (own_bytes (own_below HL.out HB0.out)) (by simp; omega) HB0.out.size ?_
  intro v1 w1 ho1 hg1 _
  have HB1 : Hid (Below w.heap.size w w1) := hide (HB0.out.grown hg1 (by simp) (fun k hk => by simp [Value.ownBlock] at hk; omega))
  have HO1 := hide ho1
  have hge1 : ∀ k, v1.ownBlock = some k → w.heap.size ≤ k := fun k hk => (ho1.lt k hk).1
  have HG1 := hide hge1
  clear ho1 hg1 hge1
  try go_simp
  refine hK.out _ _ (by first | exact SK.out _ HB2.out | exact SK.out _ HB1.out | exact SK.out _ HB0.out) (fun hHeld2 => ?_)
  clear hK K hHeld
  have hHeld := hHeld2
  clear hHeld2
  refine wpAnyH_ready (rs := [10]) (by kernel_rfl) (by simp) ?_
  refine AllReadyH.cons rfl (fun K hK => ?_) AllReadyH.nil
  refine step_append_bytes rfl _ _ rfl w.heap.size v1 ([] ++ s.la) rfl (by rw [List.length_append]; exact HO1.out) (.slice wp s.wa.length wc) s.wa rfl (own_bytes (own_below HW.out HB1.out)) (by simp; omega) HB1.out.size ?_
  intro v2 w2 ho2 hg2 _
  have HB2 : Hid (Below w.heap.size w w2) := hide (HB1.out.grown hg2 HB1.out.size HG1.out)
  have HO2 := hide ho2
  clear ho2 hg2
  try go_simp
  refine hK.out _ _ (by first | exact SK.out _ HB2.out | exact SK.out _ HB1.out | exact SK.out _ HB0.out) (fun hHeld2 => ?_)
  clear hK K hHeld
  have hHeld := hHeld2
  clear hHeld2
  refine wpAnyH_at (i := 11) (v := ?vb11) (a1 := ?xb11) rfl (by kernel_rfl) (by kernel_rfl) (by kernel_rfl) (fun _ _ _ h => h) (Or.inl ⟨by rfl, ?yb11⟩) (by assumption) ?hb11 ?zb11
  case yb11 => (intro w hSw; (try dsimp only at hSw); go_simp; try (with_reducible rfl))
  case hb11 => (go_simp; exact rfl)
  case zb11 =>
  refine wpAnyH_done (by kernel_rfl) ?_ _
  go_wp2_with fail
  go_ret
  refine ⟨_, rfl, ?_, HB2.out⟩
  have h := HO2.out
  rw [List.nil_append] at h
  rw [List.length_append]
  exact h
end Go.Proofs.Ytipebinjdicnfaa
