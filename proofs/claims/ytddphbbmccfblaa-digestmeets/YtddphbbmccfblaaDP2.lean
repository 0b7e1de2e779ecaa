/-
  digest.own, a list that shares nothing; digest.Lacks and Join.
-/
import Derived.Test.YtddphbbmccfblaaDP1
import Derived.Laws.Rows
namespace Go.Proofs.Ytddphbbmccfblaa
open Go.RowKit Go.Maps Go.Sort
open Utf1
open Pol8 hiding text right Right
open Dg16

theorem sclone_any (s : ByteArray) (hs : s.size ≤ 100000) (w : World) :
    Calls Try.prog 26 #[.string s] w fun e w' => e = .returned (.string s) ∧ Below w.heap.size w w' := by
  have C1 := hide (Try.stringslite_Clone s w (by omega))
  go_enter Try.func26, Try.ntmps26
  go_wp2_with fail
  refine C1.out.mono ?_
  rintro e w1 ⟨rfl, h1⟩
  have H1 := hide h1
  clear h1 C1
  go_wp2_with fail
  go_ret
  exact ⟨rfl, H1.out⟩
theorem lclone_any (v : Value) (ss : List ByteArray) (hl : ss.length ≤ 100000) (w : World) (hv : StrArg w v ss) :
    Calls Try.prog 25 #[v] w fun e w' => ∃ u, e = .returned u ∧ w'.ownsRow w.heap.size 9 1 u ss.length (strV ss) ∧ Below w.heap.size w w' := by
  obtain ⟨p, cap, rfl, h0, hc⟩ := hv
  cases p with
  | none =>
    have e : ss = [] := by
      cases ss with
      | nil => rfl
      | cons x r =>
        obtain ⟨b, off, e, -⟩ := hc 0 x rfl
        cases e
    subst e
    exact (Try.slices_Clone_string_nil _ _ w).mono fun e w' ⟨h1, h2⟩ => ⟨_, h1, by rw [h2]; exact World.ownsRow_nil _ _ _ _, by rw [h2]; exact Below.refl _ _⟩
  | some a =>
    cases ss with
    | nil => exact (Try.slices_Clone_string_zero a cap w).mono fun e w' ⟨u, h1, h2, _, h3⟩ => ⟨u, h1, h2, h3⟩
    | cons x r =>
      obtain ⟨b, off, e, -⟩ := hc 0 x rfl
      injection e with e
      subst e
      have hcell : ∀ j, j < (x :: r).length → w.cell? ⟨b, off + j, none⟩ = some (.string ((x :: r).getD j ByteArray.empty)) := fun j hj => by
        obtain ⟨b', off', e, h⟩ := hc j _ (List.getElem?_eq_getElem hj)
        injection e with e
        injection e with e1 e2
        subst e1 e2
        rw [List.getD_eq_getElem?_getD, List.getElem?_eq_getElem hj]
        exact h
      refine (Try.slices_Clone_string b off (x :: r).length cap (x :: r) w (Nat.le_refl _) (by omega) hcell).mono fun e w' ⟨u, h1, h2, _, h3⟩ => ⟨u, h1, ?_, h3⟩
      rw [List.take_of_length_le (Nat.le_refl _)] at h2
      exact h2
set_option maxRecDepth 100000 in
set_option maxHeartbeats 8000000 in
theorem ownList_any (v : Value) (ss : List ByteArray) (hl : ss.length ≤ 100000) (hz : ∀ x ∈ ss, x.size ≤ 100000) (w : World) (hv : StrArg w v ss) :
    Calls Try.prog 21 #[v] w fun e w' => ∃ u, e = .returned u ∧ w'.ownsRow w.heap.size 9 1 u ss.length (strV ss) ∧ Below w.heap.size w w' := by
  have C1 := hide (lclone_any v ss hl w hv)
  have HZ := hide hz
  obtain ⟨p0, cap0, rfl, -, -⟩ := hv
  clear hz
  go_enter Try.func21, Try.ntmps21
  go_wp2_with fail
  refine C1.out.mono ?_
  rintro e w1 ⟨u, rfl, hown, hb⟩
  obtain ⟨p, c, rfl, -⟩ := own_shape hown
  have H1 := hide (And.intro hown hb)
  obtain ⟨N, hN⟩ : ∃ N, N = ss.length := ⟨_, rfl⟩
  have HN := hide hN
  rw [← hN] at H1 hl
  clear hown hb C1
  try rw [← hN]
  clear hN
  go_wp2_with fail
  go_loopg [10] N (fun g v10 wx => ∃ i : Nat, i + g = N ∧ v10 = .int .i64 (i : Int) ∧ Hid (wx.ownsRow w.heap.size 9 1 (.slice p N c) N (strV ss) ∧ Below w.heap.size w wx))
  case atStart => exact ⟨0, by omega, rfl, hide H1.out⟩
  case round =>
    obtain ⟨i, hi, rfl, HU⟩ := hrel
    clear H1
    by_cases hlt : i < N
    · obtain ⟨s, hs⟩ : ∃ s, ss[i]? = some s := ⟨_, List.getElem?_eq_getElem (by have := HN.out; omega)⟩
      have hsz : s.size ≤ 100000 := HZ.out s (List.mem_of_getElem? hs)
      obtain ⟨g, rfl⟩ : ∃ g, p = some ⟨g, 0, none⟩ := by
        rcases HU.out.1.2 with ⟨e, hz⟩ | ⟨g, cap, cur, e, _⟩
        · omega
        · injection e with e1
          exact ⟨g, e1⟩
      have hge : (strV ss)[i]? = some (.string s) := by unfold strV; rw [List.getElem?_map, hs]; rfl
      have c0 : wr.cell? ⟨g, i, none⟩ = some (.string s) := by rw [HU.out.1.cellAt i (by omega), hge]
      have C2 := hide (sclone_any s hsz wr)
      have HG := hide hge
      clear hge hs
      go_wp2_with fail
      refine C2.out.mono ?_
      rintro e w2 ⟨rfl, h2⟩
      have H2 : Hid (w2.ownsRow w.heap.size 9 1 (.slice (some ⟨g, 0, none⟩) N c) N (strV ss) ∧ Below w.heap.size w w2) := hide ⟨HU.out.1.kept (row := none) (below_grown h2) (Classical.em _), HU.out.2.trans (h2.mono HU.out.2.size)⟩
      have d0 : w2.cell? ⟨g, i, none⟩ = some (.string s) := by rw [H2.out.1.cellAt i (by omega), HG.out]
      have f0 : w2.frozen? ⟨g, i, none⟩ = false := H2.out.1.frozenAt i
      clear h2 C2 c0 HU
      go_wp2_with fail
      have H3 : Hid ((w2.setCell ⟨g, i, none⟩ (.string s)).ownsRow w.heap.size 9 1 (.slice (some ⟨g, 0, none⟩) N c) N (strV ss) ∧ Below w.heap.size w (w2.setCell ⟨g, i, none⟩ (.string s))) := hide (by
        have h := (H2.out.1.stored i (.string s)).1
        have e : (strV ss).set i (.string s) = strV ss := by
          apply List.ext_getElem?
          intro j
          by_cases ej : i = j
          · subst ej
            rw [List.getElem?_set_self (List.getElem?_eq_some_iff.1 HG.out).1, HG.out]
          · rw [List.getElem?_set_ne ej]
        rw [e] at h
        have hg : w.heap.size ≤ g := (own_block H2.out.1 (k := g) rfl).1
        exact ⟨h, H2.out.2.setCell (show w.heap.size ≤ (⟨g, i, none⟩ : Addr).block from hg) _⟩)
      clear H2 d0 f0
      go_roundg (N - i - 1)
      case measure => omega
      case rel => exact ⟨i + 1, by omega, by first | rfl | simp, H3⟩
    · go_wp2_with fail
      go_ret
      refine ⟨_, rfl, ?_, HU.out.2⟩
      rw [← HN.out]
      exact HU.out.1


theorem few_big {ss : List ByteArray} (h : Few ss) : ∀ x ∈ ss, x.size ≤ 100000 := fun x hx => by have := h.2 x hx; omega
/-- What is told of a row is a copy of it. -/
theorem own_go (v : Value) (ss : List ByteArray) (hl : ss.length ≤ 100000) (hz : ∀ x ∈ ss, x.size ≤ 100000) (w : World) (hv : StrArg w v ss) :
    Calls Try.prog 21 #[v] w fun e w' => (∃ u, e = .returned u ∧ StrArg w' u ss) ∧ Below w.heap.size w w' :=
  (ownList_any v ss hl hz w hv).mono fun _ _ ⟨u, h1, h2, h3⟩ => ⟨⟨u, h1, own_arg h2⟩, h3⟩
theorem ri_few {R : List ByteArray} {P : Pol8.L → Prop} (h : Ri (R.map bl) P) (hP : ∀ y, P y → y.length ≤ 10000) : ∀ x ∈ R, x.size ≤ 100000 := fun x hx => by
  have h1 := (h.2 (bl x)).1 (List.mem_map_of_mem hx)
  have h2 := hP _ h1
  have : (bl x).length = x.size := bl_len x
  omega
theorem pfew_len {ls : List ByteArray} (h : Few ls) {y : Pol8.L} (hy : y ∈ ls.map bl) : y.length ≤ 10000 := by
  obtain ⟨x, hx, rfl⟩ := List.mem_map.1 hy
  have := h.2 x hx
  have e : (bl x).length = x.size := bl_len x
  omega
theorem new_cell (w : World) (cs : Array Value) (t : TypeId) (i : Nat) : (w.alloc (.cells cs t)).cell? ⟨w.heap.size, i, none⟩ = cs[i]? := by
  have hb : (w.alloc (.cells cs t)).heap[w.heap.size]? = some (.cells cs t (0, 0)) := by
    show (w.heap.push _)[w.heap.size]? = _
    simp
  unfold World.cell?
  rw [hb]
  simp
theorem lists_one {w : World} {v : Value} {l : List ByteArray} (h : StrArg w v l) (t : TypeId) : Lists (w.alloc (.cells #[v] t)) w.heap.size [l] := fun i l' hi => by
  match i, hi with
  | 0, hi =>
    cases hi
    exact ⟨v, by rw [new_cell]; rfl, h.below (bel_alloc (Below.refl _ _) _)⟩
theorem lists_two {w : World} {v u : Value} {l r : List ByteArray} (h : StrArg w v l) (h2 : StrArg w u r) (t : TypeId) : Lists (w.alloc (.cells #[v, u] t)) w.heap.size [l, r] := fun i l' hi => by
  match i, hi with
  | 0, hi =>
    cases hi
    exact ⟨v, by rw [new_cell]; rfl, h.below (bel_alloc (Below.refl _ _) _)⟩
  | 1, hi =>
    cases hi
    exact ⟨u, by rw [new_cell]; rfl, h2.below (bel_alloc (Below.refl _ _) _)⟩
theorem chain_nodup : ∀ l : List Pol8.L, chain l = true → l.Nodup
  | [], _ => List.nodup_nil
  | a :: r, h => by
    rw [List.nodup_cons]
    refine ⟨fun ha => ?_, chain_nodup r (chain_tail h)⟩
    have := chain_all r a h a ha
    rw [lt_irr] at this
    cases this
/-- What rises, each once, of these members is no longer than a list that holds them all. -/
theorem ri_len {R : List ByteArray} {P : Pol8.L → Prop} (h : Ri (R.map bl) P) (m : List Pol8.L) (hm : ∀ y, P y → y ∈ m) : R.length ≤ m.length := by
  have hnd : (R.map bl).Nodup := chain_nodup _ h.1
  have := hnd.length_le_of_subset (fun y hy => hm y ((h.2 y).1 hy))
  simpa using this

set_option maxRecDepth 100000 in
set_option maxHeartbeats 8000000 in
theorem lacks_any : LacksC := by
  intro v u ls bs w hfa hfb hv hu
  obtain ⟨p, c, rfl⟩ := strArg_shape hv
  obtain ⟨q, d, rfl⟩ := strArg_shape hu
  have CG := hide (gather_any (.slice p ls.length c) ls w.heap.size 1 [bs] (w.alloc (.cells #[.slice q bs.length d] 22)) rfl (by omega) (hv.below (bel_alloc (Below.refl _ _) _)) hfa (fun l hl => by rw [List.mem_singleton.1 hl]; exact hfb) (lists_one hu _))
  have HFA := hide hfa
  have HFB := hide hfb
  clear hfa hfb hv hu
  go_enter Try.func12, Try.ntmps12
  go_wp2_with fail
  refine CG.out.mono ?_
  rintro e w1 ⟨⟨v1, R, rfl, hs1, hr1⟩, hb1⟩
  have HR : Hid (Ri (R.map bl) (fun y => y ∈ bs.map bl ∧ y ∉ ls.map bl)) := hide (hr1.to (fun y => by unfold InL; simp))
  have HB1 : Hid (Below w.heap.size w w1) := hide (bel2 (bel_alloc (Below.refl _ _) _) hb1)
  have CO := hide (own_go v1 R (by have h := ri_len HR.out (bs.map bl) (fun y hy => hy.1); have := HFB.out.1; rw [List.length_map] at h; omega) (ri_few HR.out (fun y hy => pfew_len HFB.out hy.1)) w1 hs1)
  obtain ⟨p1, c1, rfl⟩ := strArg_shape hs1
  clear hs1 hr1 hb1 CG
  go_wp2_with fail
  refine CO.out.mono ?_
  rintro e w2 ⟨⟨v2, rfl, hs2⟩, hb2⟩
  obtain ⟨p2, c2, rfl⟩ := strArg_shape hs2
  have HS := hide hs2
  have HB2 := hide (bel2 HB1.out hb2)
  clear hs2 hb2 CO
  go_wp2_with fail
  go_ret
  exact ⟨⟨_, R, rfl, HS.out, HR.out⟩, HB2.out⟩

set_option maxRecDepth 100000 in
set_option maxHeartbeats 8000000 in
theorem join_any : JoinC := by
  intro v u ls bs w hfa hfb hv hu
  obtain ⟨p, c, rfl⟩ := strArg_shape hv
  obtain ⟨q, d, rfl⟩ := strArg_shape hu
  have CG := hide (gather_any (.slice none 0 0) [] w.heap.size 2 [ls, bs] (w.alloc (.cells #[.slice p ls.length c, .slice q bs.length d] 22)) rfl (by omega) (strArg_nil _) ⟨by simp, fun x hx => by cases hx⟩ (fun l hl => by
    rcases List.mem_cons.1 hl with rfl | hl
    · exact hfa
    · rw [List.mem_singleton.1 hl]; exact hfb) (lists_two hv hu _))
  have HFA := hide hfa
  have HFB := hide hfb
  clear hfa hfb hv hu
  go_enter Try.func14, Try.ntmps14
  go_wp2_with fail
  refine CG.out.mono ?_
  rintro e w1 ⟨⟨v1, R, rfl, hs1, hr1⟩, hb1⟩
  have HR : Hid (Ri (R.map bl) (fun y => y ∈ ls.map bl ∨ y ∈ bs.map bl)) := hide (hr1.to (fun y => by unfold InL; simp))
  have HB1 : Hid (Below w.heap.size w w1) := hide (bel2 (bel_alloc (Below.refl _ _) _) hb1)
  have CO := hide (own_go v1 R (by have h := ri_len HR.out (ls.map bl ++ bs.map bl) (fun y hy => List.mem_append.2 hy); have := HFB.out.1; have := HFA.out.1; rw [List.length_append, List.length_map, List.length_map] at h; omega) (ri_few HR.out (fun y hy => hy.elim (pfew_len HFA.out) (pfew_len HFB.out))) w1 hs1)
  obtain ⟨p1, c1, rfl⟩ := strArg_shape hs1
  clear hs1 hr1 hb1 CG
  go_wp2_with fail
  refine CO.out.mono ?_
  rintro e w2 ⟨⟨v2, rfl, hs2⟩, hb2⟩
  obtain ⟨p2, c2, rfl⟩ := strArg_shape hs2
  have HS := hide hs2
  have HB2 := hide (bel2 HB1.out hb2)
  clear hs2 hb2 CO
  go_wp2_with fail
  go_ret
  exact ⟨⟨_, R, rfl, HS.out, HR.out⟩, HB2.out⟩
end Go.Proofs.Ytddphbbmccfblaa
