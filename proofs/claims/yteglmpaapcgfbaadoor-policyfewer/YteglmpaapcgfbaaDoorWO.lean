/-
  The law's own 'without': a list without one of it.
-/
import Derived.Test.YteglmpaapcgfbaaDoorR7
namespace Go.Proofs.YteglmpaapcgfbaaDoor
open Go.RowKit
open Utf1 Pol8

theorem strV_one {l : List ByteArray} {u : Value} (h : u ∈ strV l) : u.oneCell' = true := by
  obtain ⟨x, _, rfl⟩ := List.mem_map.1 h
  rfl
theorem row_take {w : World} {b off : Nat} {ss : List ByteArray} (h : ∀ j s, ss[j]? = some s → w.cell? ⟨b, off + j, none⟩ = some (.string s)) {k j : Nat} {u : Value} (hj : (strV (ss.take k))[j]? = some u) : w.cell? ⟨b, off + j, none⟩ = some u := by
  unfold strV at hj
  rw [List.getElem?_map, List.getElem?_take] at hj
  split at hj
  · cases hs : ss[j]? with
    | none => rw [hs] at hj; cases hj
    | some x =>
      rw [hs] at hj
      cases hj
      exact h j x hs
  · cases hj
theorem row_drop {w : World} {b off : Nat} {ss : List ByteArray} (h : ∀ j s, ss[j]? = some s → w.cell? ⟨b, off + j, none⟩ = some (.string s)) {k j : Nat} {u : Value} (hj : (strV (ss.drop k))[j]? = some u) : w.cell? ⟨b, off + k + j, none⟩ = some u := by
  unfold strV at hj
  rw [List.getElem?_map, List.getElem?_drop] at hj
  cases hs : ss[k + j]? with
  | none => rw [hs] at hj; cases hj
  | some x =>
    rw [hs] at hj
    cases hj
    rw [Nat.add_assoc]
    exact h (k + j) x hs
theorem strArg_setCell {w : World} {p : Option Addr} {n c : Nat} {ss : List ByteArray} {a : Addr} (h : StrArg w (.slice p n c) ss) (hb : ∀ b off, p = some ⟨b, off, none⟩ → b ≠ a.block) (u : Value) : StrArg (w.setCell a u) (.slice p n c) ss := by
  obtain ⟨p', cap, e, h0, hc⟩ := h
  injection e with e1 e2 e3
  subst e1 e2 e3
  refine ⟨p, c, rfl, h0, fun i s hi => ?_⟩
  obtain ⟨b, off, hp, hcell⟩ := hc i s hi
  refine ⟨b, off, hp, ?_⟩
  unfold World.cell? at hcell ⊢
  rw [Below.heap_setCell _ _ _ _ (hb b off hp)]
  exact hcell
def CapOk (v : Value) : Prop := ∀ p n c, v = .slice p n c → n ≤ c
theorem tmod_nat (a : Int) (h : 0 ≤ a) (n : Nat) : Int.tmod a (n : Int) = ((a.toNat % n : Nat) : Int) := by
  rw [Int.tmod_eq_emod_of_nonneg h]
  conv => lhs; rw [← Int.toNat_of_nonneg h]
  exact (Int.natCast_emod _ _).symm
set_option maxRecDepth 100000 in
set_option maxHeartbeats 8000000 in
theorem without_st (v : Value) (ss : List ByteArray) (i : Int) (h0 : 0 ≤ i) (hl : ss.length ≤ 100000) (w : World) (hv : StrArg w v ss) (hcp : CapOk v) :
    Calls Tryd.prog 24 #[v, .int .i64 i] w fun e w' => (∃ p c ls, e = .returned (.slice p (List.length ls) c) ∧ StrArg w' (.slice p ls.length c) ls ∧ ls.map bl = (ss.map bl).eraseIdx (i.toNat % ss.length) ∧ ∀ b off, p = some ⟨b, off, none⟩ → w.heap.size ≤ b) ∧ Below w.heap.size w w' := by
  obtain ⟨i0, hi, hz0, hz1, hz2⟩ := info_parts infoStr
  cases ss with
  | nil =>
    obtain ⟨q, cap, rfl, -, -⟩ := hv
    go_enter Tryd.func24, Tryd.ntmps24
    go_wp2_with fail
    go_ret
    exact ⟨⟨none, 0, [], rfl, strArg_nil _, rfl, fun _ _ h => by cases h⟩, Below.refl _ _⟩
  | cons y r =>
    obtain ⟨ss, hss⟩ : ∃ ss, ss = y :: r := ⟨_, rfl⟩
    rw [← hss] at hv hl ⊢
    obtain ⟨N, hN⟩ : ∃ N, N = ss.length := ⟨_, rfl⟩
    have hpos : 0 < N := by rw [hN, hss]; simp
    obtain ⟨k, hk⟩ : ∃ k, k = i.toNat % N := ⟨_, rfl⟩
    have hkN : k < N := by rw [hk]; exact Nat.mod_lt _ hpos
    have hmod : Int.tmod i (N : Int) = (k : Int) := by rw [hk]; exact tmod_nat i h0 N
    obtain ⟨q, cap, e, -, hc⟩ := hv
    obtain ⟨b, off, rfl, -⟩ := hc 0 y (by rw [hss]; rfl)
    subst e
    have hcap : N ≤ cap := by rw [hN]; exact hcp _ _ _ rfl
    have HC : Hid (∀ j s, ss[j]? = some s → w.cell? ⟨b, off + j, none⟩ = some (.string s)) := hide (fun j s h => by
      obtain ⟨b', o', e, hcell⟩ := hc j s h
      injection e with e
      injection e with e1 e2
      rw [e1, e2]
      exact hcell)
    have HNN := hide hN
    have HK := hide hk
    rw [← hN] at hl ⊢
    have hN0 : ((N : Int) == 0) = false := beq_eq_false_iff_ne.2 (by omega)
    have b0 : (0 : Int) ≤ (k : Int) := by omega
    have b1 : (k : Int) ≤ (cap : Int) := by omega
    have b2 : (0 : Int) ≤ (k : Int) + 1 := by omega
    have b3 : (k : Int) + 1 ≤ (N : Int) := by omega
    have b4 : (N : Int) ≤ (cap : Int) := by omega
    have hw64 : IntKind.i64.wrap ((k : Int) + 1) = (k : Int) + 1 := IntWalk.i64_in _ (by omega)
    clear hc hss hcp hN hk
    by_cases hck : cap = k + 1
    · have hif : (cap = k + 1) = True := eq_true hck
      have HNK : Hid (N = k + 1) := hide (by omega)
      clear hck
      go_enter Tryd.func24, Tryd.ntmps24
      go_wp2_with fail
      refine wp_region_held_drew (S := fun wx => Below w.heap.size w wx) (by kernel_rfl) ((Below.refl _ _).drew) (fun hHeld => ?_)
      refine wpAnyH_to (i := 1) (v := ?vp1) (a1 := ?xp1) rfl (by kernel_rfl) (by kernel_rfl) (by kernel_rfl) (fun _ _ _ h => h) (Or.inl ⟨by rfl, ?yp1⟩) (by assumption) ?hp1 ?zp1
      case yp1 => (intro w hSw; (try dsimp only at hSw); go_simp; try (with_reducible rfl))
      case hp1 => (go_simp; exact rfl)
      case zp1 =>
      refine wpAnyH_to (i := 2) (v := ?vp2) (a1 := ?xp2) rfl (by kernel_rfl) (by kernel_rfl) (by kernel_rfl) (fun _ _ _ h => h) (Or.inl ⟨by rfl, ?yp2⟩) (by assumption) ?hp2 ?zp2
      case yp2 => (intro w hSw; (try dsimp only at hSw); go_simp; try (with_reducible rfl))
      case hp2 => (go_simp; exact rfl)
      case zp2 =>
      refine wpAnyH_to (i := 3) (v := ?vp3) (a1 := ?xp3) rfl (by kernel_rfl) (by kernel_rfl) (by kernel_rfl) (fun _ _ _ h => h) (Or.inl ⟨by rfl, ?yp3⟩) (by assumption) ?hp3 ?zp3
      case yp3 => (intro w hSw; (try dsimp only at hSw); go_simp; try (with_reducible rfl))
      case hp3 => (go_simp; exact rfl)
      case zp3 =>
      refine wpAnyH_to (i := 5) (v := ?vp5) (a1 := ?xp5) rfl (by kernel_rfl) (by kernel_rfl) (by kernel_rfl) (fun _ _ _ h => h) (Or.inl ⟨by rfl, ?yp5⟩) (by assumption) ?hp5 ?zp5
      case yp5 => (intro w hSw; (try dsimp only at hSw); go_simp; try (with_reducible rfl))
      case hp5 => (go_simp; exact rfl)
      case zp5 =>
      refine wpAnyH_to (i := 6) (v := ?vp6) (a1 := ?xp6) rfl (by kernel_rfl) (by kernel_rfl) (by kernel_rfl) (fun _ _ _ h => h) (Or.inl ⟨by rfl, ?yp6⟩) (by assumption) ?hp6 ?zp6
      case yp6 => (intro w hSw; (try dsimp only at hSw); go_simp; try (with_reducible rfl))
      case hp6 => (go_simp; exact rfl)
      case zp6 =>
      refine wpAnyH_to (i := 7) (v := ?vp7) (a1 := ?xp7) rfl (by kernel_rfl) (by kernel_rfl) (by kernel_rfl) (fun _ _ _ h => h) (Or.inl ⟨by rfl, ?yp7⟩) (by assumption) ?hp7 ?zp7
      case yp7 => (intro w hSw; (try dsimp only at hSw); go_simp; try (with_reducible rfl))
      case hp7 => (go_simp; exact rfl)
      case zp7 =>
      refine wpAnyH_to (i := 8) (v := ?vp8) (a1 := ?xp8) rfl (by kernel_rfl) (by kernel_rfl) (by kernel_rfl) (fun _ _ _ h => h) (Or.inl ⟨by rfl, ?yp8⟩) (by assumption) ?hp8 ?zp8
      case yp8 => (intro w hSw; (try dsimp only at hSw); go_simp; try (with_reducible rfl))
      case hp8 => (go_simp; exact rfl)
      case zp8 =>
      refine wpAnyH_ready (rs := [0]) (by kernel_rfl) (by simp) ?_
      refine AllReadyH.cons rfl (fun K hK => ?_) AllReadyH.nil
      go_simp
      refine hK.out _ _ ((bel_alloc (Below.refl _ _) _).drew) (fun hHeld2 => ?_)
      clear hK K hHeld
      obtain ⟨w0, hw0⟩ : ∃ w0, w0 = (w.alloc (.cells #[] 9)).drew := ⟨_, rfl⟩
      have HOW0 : Hid (w0.ownsRow w.heap.size 9 1 (.slice (some ⟨w.heap.size, 0, none⟩) 0 0) 0 []) := hide (by rw [hw0]; exact ⟨rfl, .inr ⟨w.heap.size, 0, #[], rfl, Nat.le_refl _, new_block w #[] 9, Nat.le_refl _, Nat.zero_le _, rfl, rfl⟩⟩)
      rw [← hw0] at hHeld2
      rw [← hw0]
      clear hw0
      refine wpAnyH_ready (rs := [4]) (by kernel_rfl) (by simp) ?_
      refine AllReadyH.cons rfl (fun K hK => ?_) AllReadyH.nil
      rw [if_pos (by rfl)]
      refine wp_append_own _ _ _ 22 rfl w.heap.size 9 i0 _ 1 16 Tryd.underlying22 hi hz0 hz1 hz2 rfl (by decide) (.slice (some ⟨w.heap.size, 0, none⟩) 0 0) 0 [] rfl HOW0.out ⟨b, off, none⟩ k cap (strV (ss.take k)) rfl (by rw [strV_len, List.length_take]; have := HNN.out; omega) (fun j u hj => by rw [add_plain]; exact cell_keep (row_take HC.out hj) hHeld2) (fun u hu => strV_one hu) (by unfold maxLen; omega) (by omega) hHeld2.size ?_
      intro u1 w1 hown1 hg1 _
      obtain ⟨p1, d1, rfl, -⟩ := own_shape hown1
      have hb1 : Below w.heap.size w w1 := hHeld2.grown hg1 hHeld2.size (fun g hgg => by simp only [Value.ownBlock, Option.some.injEq] at hgg; omega)
      refine hK.out _ _ hb1 (fun hHeld3 => ?_)
      clear hK K hg1
      have HOW1 := hide hown1
      clear hown1
      refine wpAnyH_ready (rs := [9]) (by kernel_rfl) (by simp) ?_
      refine AllReadyH.cons rfl (fun K hK => ?_) AllReadyH.nil
      rw [if_pos (by rfl)]
      refine wp_append_own _ _ _ 22 rfl w.heap.size 9 i0 _ 1 16 Tryd.underlying22 hi hz0 hz1 hz2 rfl (by decide) (.slice p1 (0 + k) d1) (0 + k) ([] ++ strV (ss.take k)) rfl HOW1.out ⟨b, off, none⟩ (N - (k + 1)) (cap - (k + 1)) (strV (ss.drop (k + 1))) rfl (by rw [strV_len, List.length_drop]; have := HNN.out; omega) (fun j u hj => by rw [List.drop_eq_nil_of_le (by have := HNN.out; have := HNK.out; omega)] at hj; simp [strV] at hj) (fun u hu => strV_one hu) (by unfold maxLen; omega) (by omega) hb1.size ?_
      intro u2 w2 hown2 hg2 _
      obtain ⟨p2, d2, rfl, -⟩ := own_shape hown2
      have hb2 : Below w.heap.size w w2 := hb1.grown hg2 hb1.size (fun g hgg => by exact (own_block HOW1.out hgg).1)
      refine hK.out _ _ hb2 (fun hHeld4 => ?_)
      clear hK K hg2
      have HE : Hid (StrArg w2 (.slice p2 (ss.take k ++ ss.drop (k + 1)).length d2) (ss.take k ++ ss.drop (k + 1)) ∧ (ss.take k ++ ss.drop (k + 1)).length = 0 + k + (N - (k + 1))) := hide (by
        have hlen : (ss.take k ++ ss.drop (k + 1)).length = 0 + k + (N - (k + 1)) := by rw [List.length_append, List.length_take, List.length_drop]; have := HNN.out; omega
        refine ⟨?_, hlen⟩
        rw [← hlen, List.nil_append, ← strV_app] at hown2
        exact own_arg hown2)
      have HBK : Hid (∀ b2 o2, p2 = some ⟨b2, o2, none⟩ → w.heap.size ≤ b2) := hide (fun b2 o2 e => by subst e; exact (own_block hown2 rfl).1)
      clear hown2
      refine wpAnyH_to (i := 10) (v := ?vp10) (a1 := ?xp10) rfl (by kernel_rfl) (by kernel_rfl) (by kernel_rfl) (fun _ _ _ h => h) (Or.inl ⟨by rfl, ?yp10⟩) (by assumption) ?hp10 ?zp10
      case yp10 => (intro w hSw; (try dsimp only at hSw); go_simp; try (with_reducible rfl))
      case hp10 => (go_simp; exact rfl)
      case zp10 =>
      refine wpAnyH_done (by kernel_rfl) ?_ _
      go_wp2_with fail
      go_ret
      refine ⟨⟨p2, d2, ss.take k ++ ss.drop (k + 1), by rw [HE.out.2, Nat.zero_add]; rfl, HE.out.1, ?_, HBK.out⟩, hb2⟩
      rw [← HK.out, List.eraseIdx_eq_take_drop_succ, List.map_append, List.map_take, List.map_drop]
    · have hns : ¬ cap = k + 1 := hck
      clear hck
      go_enter Tryd.func24, Tryd.ntmps24
      go_wp2_with fail
      refine wp_region_held_drew (S := fun wx => Below w.heap.size w wx) (by kernel_rfl) ((Below.refl _ _).drew) (fun hHeld => ?_)
      refine wpAnyH_to (i := 1) (v := ?vq1) (a1 := ?xq1) rfl (by kernel_rfl) (by kernel_rfl) (by kernel_rfl) (fun _ _ _ h => h) (Or.inl ⟨by rfl, ?yq1⟩) (by assumption) ?hq1 ?zq1
      case yq1 => (intro w hSw; (try dsimp only at hSw); go_simp; try (with_reducible rfl))
      case hq1 => (go_simp; exact rfl)
      case zq1 =>
      refine wpAnyH_to (i := 2) (v := ?vq2) (a1 := ?xq2) rfl (by kernel_rfl) (by kernel_rfl) (by kernel_rfl) (fun _ _ _ h => h) (Or.inl ⟨by rfl, ?yq2⟩) (by assumption) ?hq2 ?zq2
      case yq2 => (intro w hSw; (try dsimp only at hSw); go_simp; try (with_reducible rfl))
      case hq2 => (go_simp; exact rfl)
      case zq2 =>
      refine wpAnyH_to (i := 3) (v := ?vq3) (a1 := ?xq3) rfl (by kernel_rfl) (by kernel_rfl) (by kernel_rfl) (fun _ _ _ h => h) (Or.inl ⟨by rfl, ?yq3⟩) (by assumption) ?hq3 ?zq3
      case yq3 => (intro w hSw; (try dsimp only at hSw); go_simp; try (with_reducible rfl))
      case hq3 => (go_simp; exact rfl)
      case zq3 =>
      refine wpAnyH_to (i := 5) (v := ?vq5) (a1 := ?xq5) rfl (by kernel_rfl) (by kernel_rfl) (by kernel_rfl) (fun _ _ _ h => h) (Or.inl ⟨by rfl, ?yq5⟩) (by assumption) ?hq5 ?zq5
      case yq5 => (intro w hSw; (try dsimp only at hSw); go_simp; try (with_reducible rfl))
      case hq5 => (go_simp; exact rfl)
      case zq5 =>
      refine wpAnyH_to (i := 6) (v := ?vq6) (a1 := ?xq6) rfl (by kernel_rfl) (by kernel_rfl) (by kernel_rfl) (fun _ _ _ h => h) (Or.inl ⟨by rfl, ?yq6⟩) (by assumption) ?hq6 ?zq6
      case yq6 => (intro w hSw; (try dsimp only at hSw); go_simp; try (with_reducible rfl))
      case hq6 => (go_simp; exact rfl)
      case zq6 =>
      refine wpAnyH_to (i := 7) (v := ?vq7) (a1 := ?xq7) rfl (by kernel_rfl) (by kernel_rfl) (by kernel_rfl) (fun _ _ _ h => h) (Or.inl ⟨by rfl, ?yq7⟩) (by assumption) ?hq7 ?zq7
      case yq7 => (intro w hSw; (try dsimp only at hSw); go_simp; try (with_reducible rfl))
      case hq7 => (go_simp; exact rfl)
      case zq7 =>
      refine wpAnyH_to (i := 8) (v := ?vq8) (a1 := ?xq8) rfl (by kernel_rfl) (by kernel_rfl) (by kernel_rfl) (fun _ _ _ h => h) (Or.inl ⟨by rfl, ?yq8⟩) (by assumption) ?hq8 ?zq8
      case yq8 => (intro w hSw; (try dsimp only at hSw); go_simp; try (with_reducible rfl))
      case hq8 => (go_simp; exact rfl)
      case zq8 =>
      refine wpAnyH_ready (rs := [0]) (by kernel_rfl) (by simp) ?_
      refine AllReadyH.cons rfl (fun K hK => ?_) AllReadyH.nil
      go_simp
      refine hK.out _ _ ((bel_alloc (Below.refl _ _) _).drew) (fun hHeld2 => ?_)
      clear hK K hHeld
      obtain ⟨w0, hw0⟩ : ∃ w0, w0 = (w.alloc (.cells #[] 9)).drew := ⟨_, rfl⟩
      have HOW0 : Hid (w0.ownsRow w.heap.size 9 1 (.slice (some ⟨w.heap.size, 0, none⟩) 0 0) 0 []) := hide (by rw [hw0]; exact ⟨rfl, .inr ⟨w.heap.size, 0, #[], rfl, Nat.le_refl _, new_block w #[] 9, Nat.le_refl _, Nat.zero_le _, rfl, rfl⟩⟩)
      rw [← hw0] at hHeld2
      rw [← hw0]
      clear hw0
      refine wpAnyH_ready (rs := [4]) (by kernel_rfl) (by simp) ?_
      refine AllReadyH.cons rfl (fun K hK => ?_) AllReadyH.nil
      rw [if_pos (by rfl)]
      refine wp_append_own _ _ _ 22 rfl w.heap.size 9 i0 _ 1 16 Tryd.underlying22 hi hz0 hz1 hz2 rfl (by decide) (.slice (some ⟨w.heap.size, 0, none⟩) 0 0) 0 [] rfl HOW0.out ⟨b, off, none⟩ k cap (strV (ss.take k)) rfl (by rw [strV_len, List.length_take]; have := HNN.out; omega) (fun j u hj => by rw [add_plain]; exact cell_keep (row_take HC.out hj) hHeld2) (fun u hu => strV_one hu) (by unfold maxLen; omega) (by omega) hHeld2.size ?_
      intro u1 w1 hown1 hg1 _
      obtain ⟨p1, d1, rfl, -⟩ := own_shape hown1
      have hb1 : Below w.heap.size w w1 := hHeld2.grown hg1 hHeld2.size (fun g hgg => by simp only [Value.ownBlock, Option.some.injEq] at hgg; omega)
      refine hK.out _ _ hb1 (fun hHeld3 => ?_)
      clear hK K hg1
      have HOW1 := hide hown1
      clear hown1
      refine wpAnyH_ready (rs := [9]) (by kernel_rfl) (by simp) ?_
      refine AllReadyH.cons rfl (fun K hK => ?_) AllReadyH.nil
      rw [if_pos (by rfl)]
      refine wp_append_own _ _ _ 22 rfl w.heap.size 9 i0 _ 1 16 Tryd.underlying22 hi hz0 hz1 hz2 rfl (by decide) (.slice p1 (0 + k) d1) (0 + k) ([] ++ strV (ss.take k)) rfl HOW1.out ⟨b, off + (k + 1), none⟩ (N - (k + 1)) (cap - (k + 1)) (strV (ss.drop (k + 1))) rfl (by rw [strV_len, List.length_drop]; have := HNN.out; omega) (fun j u hj => by rw [add_plain]; exact cell_keep (row_drop HC.out hj) hb1) (fun u hu => strV_one hu) (by unfold maxLen; omega) (by omega) hb1.size ?_
      intro u2 w2 hown2 hg2 _
      obtain ⟨p2, d2, rfl, -⟩ := own_shape hown2
      have hb2 : Below w.heap.size w w2 := hb1.grown hg2 hb1.size (fun g hgg => by exact (own_block HOW1.out hgg).1)
      refine hK.out _ _ hb2 (fun hHeld4 => ?_)
      clear hK K hg2
      have HE : Hid (StrArg w2 (.slice p2 (ss.take k ++ ss.drop (k + 1)).length d2) (ss.take k ++ ss.drop (k + 1)) ∧ (ss.take k ++ ss.drop (k + 1)).length = 0 + k + (N - (k + 1))) := hide (by
        have hlen : (ss.take k ++ ss.drop (k + 1)).length = 0 + k + (N - (k + 1)) := by rw [List.length_append, List.length_take, List.length_drop]; have := HNN.out; omega
        refine ⟨?_, hlen⟩
        rw [← hlen, List.nil_append, ← strV_app] at hown2
        exact own_arg hown2)
      have HBK : Hid (∀ b2 o2, p2 = some ⟨b2, o2, none⟩ → w.heap.size ≤ b2) := hide (fun b2 o2 e => by subst e; exact (own_block hown2 rfl).1)
      clear hown2
      refine wpAnyH_to (i := 10) (v := ?vq10) (a1 := ?xq10) rfl (by kernel_rfl) (by kernel_rfl) (by kernel_rfl) (fun _ _ _ h => h) (Or.inl ⟨by rfl, ?yq10⟩) (by assumption) ?hq10 ?zq10
      case yq10 => (intro w hSw; (try dsimp only at hSw); go_simp; try (with_reducible rfl))
      case hq10 => (go_simp; exact rfl)
      case zq10 =>
      refine wpAnyH_done (by kernel_rfl) ?_ _
      go_wp2_with fail
      go_ret
      refine ⟨⟨p2, d2, ss.take k ++ ss.drop (k + 1), by rw [HE.out.2, Nat.zero_add]; rfl, HE.out.1, ?_, HBK.out⟩, hb2⟩
      rw [← HK.out, List.eraseIdx_eq_take_drop_succ, List.map_append, List.map_take, List.map_drop]
end Go.Proofs.YteglmpaapcgfbaaDoor
