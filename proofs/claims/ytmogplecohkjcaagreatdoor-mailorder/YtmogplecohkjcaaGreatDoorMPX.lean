/-
  Package mail: Put, Twice.
-/
import Derived.Test.YtmogplecohkjcaaGreatDoorMPY
import Derived.Shelf.RegionOpenPlain
import Derived.Deep.RegionLaw
import Derived.Lib.SliceRun
namespace Go.Proofs.YtmogplecohkjcaaGreatDoor
open Go.RowKit
open Utf1
open Pol8 hiding text right Right
open Msg15 Mail17

theorem near_trans {w w2 : World} {F F' : List Nat} (hb : Below w.heap.size w w2) (h : Near w2 F F') : Near w F F' := fun k hk => by
  rcases h k hk with h1 | h1
  · exact .inl h1
  · have := hb.size
    exact .inr (by omega)
theorem keep_trans {w w2 w3 : World} {F : List Nat} (hb : Below w.heap.size w w2) (h : Keep w2 w3 F) : Keep w w3 F :=
  ⟨h.os.trans hb.os, h.tape.trans hb.tape, h.output.trans hb.output, Nat.le_trans hb.size h.size, fun k hk hF => (h.block k (by have := hb.size; omega) hF).trans (hb.block k hk)⟩
theorem eright_im (t : Im) (w : World) (ht : t.ok w) : Calls Tryz.prog 25 #[t.val] w fun e w' => (∃ b : Bool, e = .returned (.bool b) ∧ (b = true ↔ MRight t.m)) ∧ Below w.heap.size w w' := by
  have h := eright_any t.m.kind t.m.fr t.m.to t.m.ep t.vi t.vp t.ids t.ts t.v1 t.v2 t.v3 t.v4 t.v5 t.m.pol t.l1 t.l2 t.l3 t.l4 t.l5 w ht.hi ht.hp ht.hv ht.hf ht.li ht.lp t.m (by
    have e1 := ht.ei
    have e2 := ht.ep
    cases hm : t.m
    rw [hm] at e1 e2
    simp only at e1 e2
    rw [← e1, ← e2])
  exact h

set_option maxRecDepth 100000 in
set_option maxHeartbeats 16000000 in
theorem pput_any (w : World) (v : Value) (ms : List Ms) (F : List Nat) (t : Im) (hg : GlobM w) (h : PBox w v ms F) (hf : Fine ms) (ht : t.ok w) (hs : MRight t.m → Sml t.m) :
    Calls Tryz.prog 11 #[v, t.val] w fun e w' => PPut w v F (PutR ms t.m) e w' := by
  obtain ⟨a, ts, p, c, G, rfl, rfl, h⟩ := h
  have HG := hide hg
  have HP := hide h
  have HF := hide hf
  have HT := hide ht
  have HS := hide hs
  obtain ⟨w1, hw1⟩ : ∃ w1, w1 = w.alloc (.cells #[.int .i64 t.m.kind, .int .i64 t.m.fr, .int .i64 t.m.to, .int .i64 t.m.ep, t.vi, t.vp, .int .i64 t.m.pol.ep, t.v1, t.v2, t.v3, t.v4, t.v5, .int .i64 t.m.pol.dp, .int .i64 t.m.pol.nd, .int .i64 t.m.pol.bt] 35) := ⟨_, rfl⟩
  have B1 : Hid (Below w.heap.size w w1) := hide (by rw [hw1]; exact bel_alloc (Below.refl _ _) _)
  have T1 : Hid (w1.heap[w.heap.size]? = some (.cells t.cells.toArray 35 (0, 0))) := hide (by rw [hw1]; exact new_block _ _ _)
  have CR := hide (eright_im t w1 (ht.below B1.out))
  clear hg h hf ht hs
  go_enter Tryz.func11, Tryz.ntmps11
  go_upto_region 1 with fail
  rw [← hw1]
  clear hw1
  go_step
  refine wpList_load_row rfl 35 _ rfl w.heap.size rfl 35 t.cells.toArray (0, 0) _ T1.out Tryz.underlying35 rfl (by kernel_rfl) ?_
  go_wp2_with fail
  refine CR.out.mono ?_
  rintro e w2 ⟨⟨b, rfl, hb⟩, hb2⟩
  have RB2 := hide hb
  have B2 : Hid (Below w.heap.size w w2) := hide (bel2 B1.out hb2)
  have T2 : Hid (w2.heap[w.heap.size]? = some (.cells t.cells.toArray 35 (0, 0))) := hide ((hb2.block _ (Array.getElem?_eq_some_iff.1 T1.out).1).trans T1.out)
  clear hb hb2 CR T1 B1
  cases b with
  | false =>
    go_wp2_with fail
    go_ret
    exact ⟨⟨1, ts.map Im.m, F, rfl, .inl ⟨fun h => (by have := RB2.out.2 h; cases this), rfl, rfl⟩, ⟨a, ts, p, c, G, rfl, rfl, HP.out.below B2.out⟩, Near.refl _ _⟩, keep_in B2.out⟩
  | true =>
    have HR := hide (RB2.out.1 rfl)
    have CA := hide (padd_any w2 a ts p c G F t (HG.out.below B2.out) (HP.out.below B2.out) HF.out (HT.out.below B2.out) HR.out (HS.out HR.out))
    clear RB2
    go_upto_region 3 with fail
    go_step
    go_step
    rename_i kk
    go_simp
    refine kk _ _ ?_
    clear kk
    refine wpList_load_row rfl 35 _ rfl w.heap.size rfl 35 t.cells.toArray (0, 0) _ T2.out Tryz.underlying35 rfl (by kernel_rfl) ?_
    go_wp2_with fail
    refine CA.out.mono ?_
    rintro e w3 ⟨⟨cd, ms', F', rfl, hr, hx, hn⟩, hk⟩
    go_wp2_with fail
    go_ret
    exact ⟨⟨cd, ms', F', rfl, hr, hx, near_trans B2.out hn⟩, keep_trans B2.out hk⟩

set_option maxRecDepth 100000 in
set_option maxHeartbeats 16000000 in
theorem ptwice_any (w : World) (v : Value) (ms : List Ms) (F : List Nat) (n : Int) (hg : GlobM w) (h : PBox w v ms F) (hf : Fine ms) :
    Calls Tryz.prog 16 #[v, .int .i64 n] w fun e w' => PPut w v F (TwiceR ms n) e w' := by
  obtain ⟨a, ts, p, c, G, rfl, rfl, h⟩ := h
  have HG := hide hg
  have HP := hide h
  have HF := hide hf
  have CH := hide (phas_any w a ts p c G F n h)
  clear hg h hf
  go_enter Tryz.func16, Tryz.ntmps16
  go_wp2_with fail
  refine CH.out.mono ?_
  rintro e w2 ⟨rfl, hb2⟩
  have B2 := hide hb2
  clear hb2 CH
  by_cases hin : 0 ≤ n ∧ n < (ts.length : Int)
  · rw [decide_eq_true hin]
    obtain ⟨k, rfl⟩ : ∃ k : Nat, n = (k : Int) := ⟨n.toNat, by omega⟩
    have hk : k < ts.length := by omega
    obtain ⟨t, ht⟩ : ∃ t, ts[k]? = some t := ⟨_, List.getElem?_eq_getElem hk⟩
    have htm : (ts.map Im.m)[k]? = some t.m := by rw [List.getElem?_map, ht]; rfl
    have P2 := HP.out.below B2.out
    obtain ⟨N, hN⟩ : ∃ N, N = ts.length := ⟨_, rfl⟩
    have HROW : MRow w2 (.slice p N c) ts := by rw [hN]; exact P2.row (HG.out.below B2.out).1
    have c0 : w2.cell? ⟨a, 0, none⟩ = some (.slice p N c) := by rw [hN]; exact tag_cell P2.b 0 _ rfl
    obtain ⟨b, off, rfl, hrg, hok⟩ := HROW.at ht
    have hkN : k < N := by omega
    have hm := List.mem_of_getElem? htm
    have CA := hide (padd_any w2 a ts (some ⟨b, off, none⟩) c G F t (HG.out.below B2.out) P2 HF.out hok (HF.out.r _ hm) (HF.out.s _ hm))
    have HTM := hide htm
    clear hin hk ht htm P2 hN HROW hok hm
    go_upto_region 3 with fail
    go_wp2_with (refine wpList_load_mid rfl 35 _ rfl b (off + k * 15) rfl t.cells _ hrg Tryz.underlying35 rfl (by kernel_rfl) ?_)
    refine CA.out.mono ?_
    rintro e w3 ⟨⟨cd, ms', F', rfl, hr, hx, hn⟩, hk⟩
    go_wp2_with fail
    go_ret
    exact ⟨⟨cd, ms', F', rfl, .inr ⟨k, t.m, rfl, HTM.out, hr⟩, hx, near_trans B2.out hn⟩, keep_trans B2.out hk⟩
  · rw [decide_eq_false hin]
    go_wp2_with fail
    go_ret
    exact ⟨⟨8, ts.map Im.m, F, rfl, .inl ⟨by rw [List.length_map]; omega, rfl, rfl⟩, ⟨a, ts, p, c, G, rfl, rfl, HP.out.below B2.out⟩, Near.refl _ _⟩, keep_in B2.out⟩
end Go.Proofs.YtmogplecohkjcaaGreatDoor

namespace Go.Proofs.YtmogplecohkjcaaGreatDoor
open Go.RowKit
open Utf1
open Pol8 hiding text right Right
open Msg15 Mail17

theorem mflat_cut (ts : List Im) (k : Nat) : mflat ts = mflat (ts.take k) ++ mflat (ts.drop k) := by
  rw [← mflat_app, List.take_append_drop]
theorem mflat_erase (ts : List Im) (k : Nat) : mflat (ts.eraseIdx k) = mflat (ts.take k) ++ mflat (ts.drop (k + 1)) := by
  rw [List.eraseIdx_eq_take_drop_succ, mflat_app]
theorem run_clear_msg (w : World) (ty : TypeId) (b o c : Nat) (hc : ∀ j, j < 15 → (w.cell? ⟨b, o + j, none⟩).isSome = true) (hf : ∀ j, j < 15 → w.frozen? ⟨b, o + j, none⟩ = false) :
    (Builtin.clear_ #[27] ty #[.slice (some ⟨b, o, none⟩) 1 c]).run Tryz.prog w = .ok (.tuple #[]) (w.setCells b o zmsg.toList) := by
  have hz : (zeroValue 35).run Tryz.prog w = .ok (.agg zmsg) w := by kernel_rfl
  have hzc : (Builtin.zeroCells (Value.agg zmsg).cells 1).toList = zmsg.toList := by kernel_rfl
  have hst := run_storeCells_cells (P := Tryz.prog) b o zmsg.toList 0 w (by simpa using hc) (by simpa using hf) (by simp [Value.oneCell'])
  simp only [Nat.add_zero] at hst
  simp [Builtin.clear_, run_underlying Tryz.underlying27, hz, hzc, hst]

theorem size_of_get {A B : Array Value} {vs : List Value} {o n : Nat} (hA : A.size = n) (h : ∀ j, B[j]? = if o ≤ j ∧ j < o + vs.length ∧ j < A.size then vs[j - o]? else A[j]?) : B.size = n := by
  subst hA
  rcases Nat.lt_trichotomy B.size A.size with h1 | h1 | h1
  · have h2 := h B.size
    rw [Array.getElem?_eq_none (Nat.le_refl _)] at h2
    by_cases hc : o ≤ B.size ∧ B.size < o + vs.length ∧ B.size < A.size
    · rw [if_pos hc, List.getElem?_eq_getElem (by omega)] at h2
      cases h2
    · rw [if_neg hc, Array.getElem?_eq_getElem h1] at h2
      cases h2
  · exact h1
  · have h2 := h A.size
    rw [if_neg (by omega), Array.getElem?_eq_none (Nat.le_refl _), Array.getElem?_eq_getElem h1] at h2
    cases h2
theorem del_cells {ts : List Im} {N k c : Nat} {cur cur1 cur2 : Array Value} {news zs : List Value} (hl : ts.length = N) (hk : k < N) (hcl : ∀ j, j < N * 15 → cur[j]? = (mflat ts)[j]?) (hsz : cur.size = c * 15) (hNc : N ≤ c)
    (hnews : news = mflat (ts.drop (k + 1))) (hlen : news.length = (N - (k + 1)) * 15) (hc1 : ∀ j, cur1[j]? = if 0 + k * 15 ≤ j ∧ j < 0 + k * 15 + news.length ∧ j < cur.size then news[j - (0 + k * 15)]? else cur[j]?)
    (_hz : zs.length = 15) (hc2 : ∀ j, cur2[j]? = if (k + (N - (k + 1))) * 15 ≤ j ∧ j < (k + (N - (k + 1))) * 15 + zs.length ∧ j < cur1.size then zs[j - (k + (N - (k + 1))) * 15]? else cur1[j]?) : cur2.toList.take ((N - 1) * 15) = mflat (ts.eraseIdx k) := by
  have hlk : (mflat (ts.take k)).length = k * 15 := by rw [mflat_len, List.length_take, hl, Nat.min_eq_left (Nat.le_of_lt hk)]
  have hld : (mflat (ts.drop (k + 1))).length = (N - (k + 1)) * 15 := by rw [mflat_len, List.length_drop, hl]
  have hN1 : k + (N - (k + 1)) = N - 1 := by omega
  rw [hN1] at hc2
  apply List.ext_getElem?
  intro j
  rw [mflat_erase]
  by_cases hj : j < (N - 1) * 15
  · rw [List.getElem?_take, if_pos hj, Array.getElem?_toList, hc2, if_neg (by omega), hc1]
    by_cases hjk : j < k * 15
    · rw [if_neg (by omega), hcl j (by omega), List.getElem?_append_left (by omega), mflat_cut ts k, List.getElem?_append_left (by omega)]
    · rw [if_pos ⟨by omega, by rw [hlen]; omega, by rw [hsz]; omega⟩, List.getElem?_append_right (by omega), hlk, hnews, show j - (0 + k * 15) = j - k * 15 by omega]
  · rw [List.getElem?_take, if_neg hj, List.getElem?_eq_none (by rw [List.length_append, hlk, hld]; omega)]
set_option maxRecDepth 1000000 in
set_option maxHeartbeats 16000000 in
theorem pdelete_any (g N c k : Nat) (ts : List Im) (w : World) (ho : w.ownsRow 0 35 15 (.slice (some ⟨g, 0, none⟩) N c) N (mflat ts)) (hl : ts.length = N) (hk : k < N) (hN : N ≤ 96) (hone : ∀ u ∈ mflat ts, u.oneCell' = true) :
    Calls Tryz.prog 28 #[.slice (some ⟨g, 0, none⟩) N c, .int .i64 (k : Int), .int .i64 ((k : Int) + 1)] w fun e w' => e = .returned (.slice (some ⟨g, 0, none⟩) (N - 1) c) ∧ w'.ownsRow 0 35 15 (.slice (some ⟨g, 0, none⟩) (N - 1) c) (N - 1) (mflat (ts.eraseIdx k)) ∧ w.grownBy w' (some g) := by
  obtain ⟨i0, hi0, hz0, hz1, hz2⟩ := info_parts minfoMsg
  have t27 := Tryz.underlying27
  obtain ⟨cur, hcur, hNc, hcm, hsz, htk⟩ : ∃ cur, w.heap[g]? = some (.cells cur 35 (0, 0)) ∧ N ≤ c ∧ c ≤ maxLen ∧ cur.size = c * 15 ∧ cur.toList.take (N * 15) = mflat ts := by
    obtain ⟨-, h2 | ⟨g', cap, cur, hv, -, hg, h3⟩⟩ := ho
    · cases h2.1
    · injection hv with e1 e2 e3
      injection e1 with e1
      injection e1 with e1
      subst e1 e3
      exact ⟨cur, hg, h3⟩
  have hcl : ∀ j, j < N * 15 → cur[j]? = (mflat ts)[j]? := fun j hj => by
    rw [← htk, List.getElem?_take, if_pos hj, Array.getElem?_toList]
  obtain ⟨news, hnews⟩ : ∃ news, news = mflat (ts.drop (k + 1)) := ⟨_, rfl⟩
  have hlen : news.length = (N - (k + 1)) * 15 := by rw [hnews, mflat_len, List.length_drop, hl]
  have hget : ∀ t u, news[t]? = some u → cur[(k + 1) * 15 + t]? = some u := by
    intro t u hu
    have ht := (List.getElem?_eq_some_iff.1 hu).1
    rw [hlen] at ht
    have h1 : (mflat (ts.take (k + 1))).length = (k + 1) * 15 := by rw [mflat_len, List.length_take, hl]; omega
    rw [hcl _ (by omega), mflat_cut ts (k + 1), List.getElem?_append_right (by omega), h1, show (k + 1) * 15 + t - (k + 1) * 15 = t by omega, ← hnews]
    exact hu
  have hcm2 : c ≤ 9223372036854775807 := by unfold maxLen at hcm; omega
  obtain ⟨A, hA, hsrc⟩ : ∃ A : Addr, (if c = k + 1 then some (⟨g, 0, none⟩ : Addr) else some ⟨g, (k + 1) * 15, none⟩) = some A ∧ Hid (∀ t u, news[t]? = some u → w.drew.cell? (A.add t) = some u) := by
    by_cases h : c = k + 1
    · refine ⟨⟨g, 0, none⟩, by simp [h], fun t u hu => ?_⟩
      have h0 : news.length = 0 := by rw [hlen]; omega
      rw [List.length_eq_zero_iff.1 h0] at hu
      simp at hu
    · refine ⟨⟨g, (k + 1) * 15, none⟩, by simp [h], fun t u hu => ?_⟩
      have h1 := hget t u hu
      rw [add_plain]
      exact tag_cell (w := w.drew) hcur _ _ h1
  have s1 : Hid (news.length = (N - (k + 1)) * 15) := hlen
  have s2 : Hid (∀ u ∈ news, u.oneCell' = true) := by
    intro u hu
    refine hone u ?_
    rw [mflat_cut ts (k + 1), ← hnews]
    exact List.mem_append_right _ hu
  have s3 : Hid (∀ t, t < news.length → (w.drew.cell? ⟨g, 0 + k * 15 + t, none⟩).isSome = true ∧ w.drew.frozen? ⟨g, 0 + k * 15 + t, none⟩ = false) := by
    intro t ht
    rw [hlen] at ht
    have hlt : 0 + k * 15 + t < cur.size := by rw [hsz]; omega
    exact ⟨Option.isSome_iff_exists.2 ⟨_, tag_cell (w := w.drew) hcur _ _ (Array.getElem?_eq_getElem hlt)⟩, cell_free (w := w.drew) hcur _⟩
  obtain ⟨W1, hW1⟩ : ∃ W1, W1 = w.drew.setCells g (0 + k * 15) news := ⟨_, rfl⟩
  obtain ⟨cur1, hcur1, hc1⟩ := setCells_heap (g := g) (t := 35) news (0 + k * 15) w.drew cur hcur
  rw [← hW1] at hcur1
  have hsz1 : cur1.size = c * 15 := size_of_get hsz hc1
  have hcl2 : ∀ ty, (Builtin.clear_ #[27] ty #[.slice (some ⟨g, (k + (N - (k + 1))) * 15, none⟩) (N - (k + (N - (k + 1)))) (c - (k + (N - (k + 1))))]).run Tryz.prog W1 = .ok (.tuple #[]) (W1.setCells g ((k + (N - (k + 1))) * 15) zmsg.toList) := fun ty => by
    rw [show N - (k + (N - (k + 1))) = 1 by omega]
    refine run_clear_msg W1 ty g _ _ (fun j hj => ?_) (fun j hj => cell_free hcur1 _)
    have hlt : (k + (N - (k + 1))) * 15 + j < cur1.size := by rw [hsz1]; omega
    exact Option.isSome_iff_exists.2 ⟨_, tag_cell hcur1 _ _ (Array.getElem?_eq_getElem hlt)⟩
  have hW : Hid (W1 = w.drew.setCells g (0 + k * 15) news) := hW1
  have hic : k ≤ c := by omega
  have mixed : Tryz.prog.follows .mixedOrders = true := by kernel_rfl
  have hb0 : (0 : Int) ≤ (k : Int) + 1 := by omega
  have hb1 : (k : Int) + 1 ≤ (N : Int) := by omega
  have hjc : k + 1 ≤ c := by omega
  have HC1 : Hid (W1.heap[g]? = some (.cells cur1 35 (0, 0))) := hide hcur1
  have HCL := hide hcl
  have HLEN := hide hlen
  have HNEWS := hide hnews
  have HC1F := hide hc1
  clear ho hcl hget hnews hlen hcur hW1 hcur1 htk hc1
  go_enter Tryz.func28, Tryz.ntmps28
  go_wp2_with fail
  go_region_law_o (refine step_append_room rfl (.tmp 22) (.tmp 25) 27 rfl 35 i0 15 t27 hi0 hz1 g 0 k c (by simp [Act.eval, Act.put]) A (N - (k + 1)) (c - (k + 1)) news (by simp [Act.eval, Act.put]) s1.out hsrc.out s2.out (by omega) s3.out ?_; rw [← hW.out])
  clear hsrc s1 s2 s3 hA
  go_wp2_with fail
  go_ret
  obtain ⟨cur2, hcur2, hc2⟩ := setCells_heap (g := g) (t := 35) zmsg.toList ((k + (N - (k + 1))) * 15) W1 cur1 HC1.out
  have hzl : zmsg.toList.length = 15 := by simp
  have hsz2 : cur2.size = c * 15 := size_of_get hsz1 hc2
  have hb2 : Below 0 w W1 := by
    rw [hW.out]
    exact setCells_below (Nat.zero_le _) _ _ _ (Below.refl 0 w).drew
  have hb3 : Below 0 w (W1.setCells g ((k + (N - (k + 1))) * 15) zmsg.toList) := setCells_below (Nat.zero_le _) _ _ _ hb2
  have hob : ∀ x, x ≠ g → (W1.setCells g ((k + (N - (k + 1))) * 15) zmsg.toList).heap[x]? = w.heap[x]? := fun x hx => by
    rw [setCells_other hx, hW.out, setCells_other hx]
    rfl
  refine ⟨by rw [show k + (N - (k + 1)) = N - 1 by omega]; rfl, ⟨by rw [mflat_len, List.length_eraseIdx, if_pos (by omega), hl], .inr ⟨g, c, cur2, rfl, Nat.zero_le _, hcur2, by omega, hcm, hsz2, ?_⟩⟩, ⟨hb3.os, hb3.tape, hb3.output, hb3.size, fun x hx hne => hob x (fun e => hne (by rw [e]))⟩⟩
  exact del_cells hl hk HCL.out hsz hNc HNEWS.out HLEN.out HC1F.out hzl hc2
end Go.Proofs.YtmogplecohkjcaaGreatDoor


namespace Go.Proofs.YtmogplecohkjcaaGreatDoor
open Go.RowKit
open Utf1
open Pol8 hiding text right Right
open Msg15 Mail17

/-- The table of powers stays where no block of twenty cells is changed. -/
theorem Glob.off {w w' : World} (h : Glob w) (hw : ∀ (b : Nat) (A : Array Value) (t : TypeId) (fr : Nat × Nat), w.heap[b]? = some (.cells A t fr) → A.size = 20 → w'.heap[b]? = w.heap[b]?) : Glob w' := by
  unfold Glob Lib.TabIs World.var? at h ⊢
  rw [gTab] at h ⊢
  simp only [Option.bind_some] at h ⊢
  cases hb : w.heap[3]? with
  | none => rw [hb] at h; cases h
  | some o =>
    rw [hb] at h
    cases o with
    | cells cs t fr =>
      injection h with h
      rw [hw _ cs t fr hb (by rw [h]; simp [Lib.pow10Tab]), hb]
      exact congrArg some h
    | _ => cases h
theorem pmap_erase : ∀ (ts : List Im) (k : Nat), (ts.eraseIdx k).map Im.m = (ts.map Im.m).eraseIdx k
  | [], _ => rfl
  | _ :: _, 0 => rfl
  | t :: ts, k + 1 => congrArg (t.m :: ·) (pmap_erase ts k)
theorem mem_erase {ts : List Im} {k : Nat} {t : Im} (h : t ∈ ts.eraseIdx k) : t ∈ ts := (List.eraseIdx_sublist ts k).mem h
/-- One message taken, and the row stored. -/
theorem pb_pull {w W3 W4 : World} {a g : Nat} {ts : List Im} {c k : Nat} {G F : List Nat} (h : PBx w a ts (some ⟨g, 0, none⟩) c G F) (hk : k < ts.length) (hb : Below w.heap.size w W3) (hg : W3.grownBy W4 (some g)) (ho : W4.ownsRow 0 35 15 (.slice (some ⟨g, 0, none⟩) (ts.length - 1) c) (ts.length - 1) (mflat (ts.eraseIdx k)))
    {W6 : World} (h6 : ∀ x, x ≠ w.heap.size → W6.heap[x]? = (W4.setCell ⟨a, 0, none⟩ (.slice (some ⟨g, 0, none⟩) (ts.length - 1) c)).heap[x]?) (hs6 : W4.heap.size ≤ W6.heap.size) (hos : W6.os = W4.os) (htp : W6.tape = W4.tape) (hout : W6.output = W4.output) :
    PBx W6 a (ts.eraseIdx k) (some ⟨g, 0, none⟩) c G F ∧ Keep w W6 F ∧ ∀ x, x < w.heap.size → x ≠ a → x ≠ g → W6.heap[x]? = w.heap[x]? := by
  have hal := h.lt a h.fa
  have hgl := h.lt g (h.fp _ rfl)
  have hne : g ≠ a := fun e => h.ne (by rw [← e]; rfl)
  have hlen : (ts.eraseIdx k).length = ts.length - 1 := by rw [List.length_eraseIdx, if_pos hk]
  have hs1 := hb.size
  have hs2 := hg.size
  have hblk : ∀ x, x < w.heap.size → x ≠ a → x ≠ g → W6.heap[x]? = w.heap[x]? := fun x h1 h2 h3 => by
    rw [h6 x (by omega), set_other (show x ≠ (⟨a, 0, none⟩ : Addr).block from h2), hg.block x (by omega) (fun e => h3 (by injection e)), hb.block x h1]
  refine ⟨⟨?_, ?_, ?_, h.ga, h.gp, h.gf, h.fa, h.fp, fun x hx => by have := h.lt x hx; omega⟩, ⟨?_, ?_, ?_, by omega, fun x hx hF => hblk x hx (fun e => hF (e ▸ h.fa)) (fun e => hF (e ▸ h.fp _ rfl))⟩, hblk⟩
  · rw [h6 a (by omega), hlen]
    have hA : W4.heap[a]? = some (.cells #[.slice (some ⟨g, 0, none⟩) ts.length c] 55 (0, 0)) := by
      rw [hg.block a (by omega) (fun e => hne (by injection e with e; exact e.symm)), hb.block a hal]
      exact h.b
    exact cell_set hA 0 _
  · rw [hlen]
    have hoa : (Value.slice (some ⟨g, 0, none⟩) (ts.length - 1) c).ownBlock ≠ some (⟨a, 0, none⟩ : Addr).block := fun e => hne (by have e2 : some g = some a := e; injection e2)
    refine own_same (ownsRow_setCell_other ho hoa (.slice (some ⟨g, 0, none⟩) (ts.length - 1) c)) (fun q hq => ?_)
    injection hq with hq
    subst hq
    exact h6 g (by omega)
  · intro t ht
    exact (h.k t (mem_erase ht)).to (fun y hy => hblk y (h.lt y (h.gf y hy)) (fun e => h.ga (e ▸ hy)) (fun e => h.gp _ rfl (e ▸ hy)))
  · rw [hos]; exact hg.os.trans hb.os
  · rw [htp]; exact hg.tape.trans hb.tape
  · rw [hout]; exact hg.output.trans hb.output

theorem zmsg_zero : zmsg.toList.toArray = zmsg := rfl
abbrev zimP : Im := bare Ms.zero
theorem zimP_ok (w : World) (hg : Glob w) : zimP.ok w := ⟨strArg_nil w, postRow_nil w, PolV.zero w hg, rfl, rfl, fits_zero, by simp, by simp⟩
/-- What a Take leaves. -/
def PTake (w : World) (v : Value) (F : List Nat) (ms : List Ms) (n : Int) (e : Ending) (w' : World) : Prop := (∃ (t : Im) (b : Bool) (ms' : List Ms) (F' : List Nat), e = .returned (.tuple #[t.val, .bool b]) ∧ t.ok w' ∧ TakeR ms n b t.m ms' ∧ PBox w' v ms' F' ∧ Near w F F') ∧ Keep w w' F

set_option maxRecDepth 100000 in
set_option maxHeartbeats 16000000 in
theorem ptake_any (w : World) (v : Value) (ms : List Ms) (F : List Nat) (n : Int) (hg : GlobM w) (h : PBox w v ms F) (hf : Fine ms) :
    Calls Tryz.prog 13 #[v, .int .i64 n] w fun e w' => PTake w v F ms n e w' := by
  obtain ⟨a, ts, p, c, G, rfl, rfl, h⟩ := h
  have HG := hide hg
  have HP := hide h
  have HF := hide hf
  obtain ⟨w1, hw1⟩ : ∃ w1, w1 = w.alloc (.cells zmsg 35) := ⟨_, rfl⟩
  have B1 : Hid (Below w.heap.size w w1) := hide (by rw [hw1]; exact bel_alloc (Below.refl _ _) _)
  have Z1 : Hid (w1.heap[w.heap.size]? = some (.cells zmsg 35 (0, 0))) := hide (by rw [hw1]; exact new_block _ _ _)
  have CH := hide (phas_any w1 a ts p c G F n (h.below B1.out))
  clear hg h hf
  go_enter Tryz.func13, Tryz.ntmps13
  go_upto_region 1 with fail
  rw [← hw1]
  clear hw1
  go_wp2_with fail
  refine CH.out.mono ?_
  rintro e w2 ⟨rfl, hb2⟩
  have B2 : Hid (Below w.heap.size w w2) := hide (bel2 B1.out hb2)
  have Z2 : Hid (w2.heap[w.heap.size]? = some (.cells zmsg 35 (0, 0))) := hide ((hb2.block _ (Array.getElem?_eq_some_iff.1 Z1.out).1).trans Z1.out)
  clear hb2 CH B1 Z1
  by_cases hin : 0 ≤ n ∧ n < (ts.length : Int)
  · rw [decide_eq_true hin]
    obtain ⟨k, rfl⟩ : ∃ k : Nat, n = (k : Int) := ⟨n.toNat, by omega⟩
    have hk : k < ts.length := by omega
    obtain ⟨t, ht⟩ : ∃ t, ts[k]? = some t := ⟨_, List.getElem?_eq_getElem hk⟩
    have htm : (ts.map Im.m)[k]? = some t.m := by rw [List.getElem?_map, ht]; rfl
    have hlen := HF.out.len
    rw [List.length_map] at hlen
    have P2 := HP.out.below B2.out
    obtain ⟨N, hN⟩ : ∃ N, N = ts.length := ⟨_, rfl⟩
    have HROW : MRow w2 (.slice p N c) ts := by rw [hN]; exact P2.row (HG.out.below B2.out).1
    have c0 : w2.cell? ⟨a, 0, none⟩ = some (.slice p N c) := by rw [hN]; exact tag_cell P2.b 0 _ rfl
    obtain ⟨b, off, hp, hrg, hok⟩ := HROW.at ht
    obtain ⟨g, rfl⟩ : ∃ g, p = some ⟨g, 0, none⟩ := by
      rcases P2.o.2 with h1 | ⟨g, cap, cur, hv, -⟩
      · rw [hp] at h1
        cases h1.1
      · injection hv with hv
        exact ⟨g, hv⟩
    obtain ⟨rfl, rfl⟩ : g = b ∧ 0 = off := by
      injection hp with hp
      injection hp with h1 h2
      exact ⟨h1, h2⟩
    rw [Nat.zero_add] at hrg
    have hone := im_one hok
    have hkN : k < N := by omega
    have HTM := hide htm
    have HK := hide hk
    have HKN := hide hkN
    have HIM := hide (List.mem_of_getElem? ht)
    obtain ⟨w3, hw3⟩ : ∃ w3, w3 = w2.alloc (.cells t.cells.toArray 35) := ⟨_, rfl⟩
    have B23 : Hid (Below w2.heap.size w2 w3) := hide (by rw [hw3]; exact bel_alloc (Below.refl _ _) _)
    have B3 : Hid (Below w.heap.size w w3) := hide (bel2 B2.out B23.out)
    have T3 : Hid (w3.heap[w2.heap.size]? = some (.cells t.cells.toArray 35 (0, 0))) := hide (by rw [hw3]; exact new_block _ _ _)
    have Z3 : Hid (w3.heap[w.heap.size]? = some (.cells zmsg 35 (0, 0))) := hide ((B23.out.block _ (Array.getElem?_eq_some_iff.1 Z2.out).1).trans Z2.out)
    have HQ : Hid (w.heap.size < w2.heap.size) := hide (Array.getElem?_eq_some_iff.1 Z2.out).1
    have P3 := HP.out.below B3.out
    have CD := hide (pdelete_any g N c k ts w3 (by rw [hN]; exact P3.o) hN.symm hkN (by omega) (mflat_one_cell (fun x hx => (P3.k x hx).ok (HG.out.below B3.out).1)))
    have c3 : w3.cell? ⟨a, 0, none⟩ = some (.slice (some ⟨g, 0, none⟩) N c) := by rw [hN]; exact tag_cell P3.b 0 _ rfl
    have hN96 : N ≤ 96 := by omega
    have HN := hide hN
    clear hin hk ht htm P2 P3 hN HROW hok hlen hp B23
    go_upto_region 3 with fail
    go_upto_region 4 with (first
      | (refine wpList_load_mid rfl 35 _ rfl g (k * 15) rfl t.cells _ hrg Tryz.underlying35 rfl (by kernel_rfl) ?_)
      | (refine wpList_store_row rfl 35 _ _ rfl w2.heap.size t.cells.toArray rfl rfl 35 _ (new_block _ _ _) (by kernel_rfl) rfl hone ?_; rw [World.setRow_alloc_new]))
    rw [← hw3]
    clear hw3 c0 hrg
    go_wp2_with fail
    rename_i kk
    refine CD.out.mono ?_
    rintro e w4 ⟨rfl, ho4, hg4⟩
    have HO4 := hide ho4
    have HG4 := hide hg4
    have HNE : Hid (g ≠ a) := hide (fun e => HP.out.ne (by rw [← e]; rfl))
    have HAL : Hid (a < w.heap.size ∧ g < w.heap.size) := hide ⟨HP.out.lt a HP.out.fa, HP.out.lt g (HP.out.fp _ rfl)⟩
    have hs3 := B3.out.size
    have A4 : Hid (w4.heap[a]? = some (.cells #[.slice (some ⟨g, 0, none⟩) ts.length c] 55 (0, 0))) := hide (by
      have := HAL.out.1
      rw [hg4.block a (by omega) (fun e => HNE.out (by injection e with e; exact e.symm)), B3.out.block a HAL.out.1]
      exact HP.out.b)
    have hQ3 := (Array.getElem?_eq_some_iff.1 T3.out).1
    have T4 : Hid (w4.heap[w2.heap.size]? = some (.cells t.cells.toArray 35 (0, 0))) := hide (by
      have h1 := HAL.out.2
      have h2 := HQ.out
      rw [hg4.block _ hQ3 (fun e => by injection e; omega)]
      exact T3.out)
    have Z4 : Hid (w4.heap[w.heap.size]? = some (.cells zmsg 35 (0, 0))) := hide (by
      have h1 := HAL.out.2
      have h2 := HQ.out
      rw [hg4.block _ (by omega) (fun e => by injection e; omega)]
      exact Z3.out)
    have y1 := tag_cell A4.out 0 _ rfl
    have y2 := cell_free A4.out 0
    obtain ⟨w5, hw5⟩ : ∃ w5, w5 = w4.setCell ⟨a, 0, none⟩ (.slice (some ⟨g, 0, none⟩) (N - 1) c) := ⟨_, rfl⟩
    have T5 : Hid (w5.heap[w2.heap.size]? = some (.cells t.cells.toArray 35 (0, 0))) := hide (by
      have h1 := HAL.out.1
      have h2 := HQ.out
      rw [hw5, set_other (show w2.heap.size ≠ a by omega)]
      exact T4.out)
    have Z5 : Hid (w5.heap[w.heap.size]? = some (.cells zmsg 35 (0, 0))) := hide (by
      have h1 := HAL.out.1
      rw [hw5, set_other (show w.heap.size ≠ a by omega)]
      exact Z4.out)
    have HW5 := hide hw5
    clear ho4 hg4 hs3 hQ3 CD c3 T3 Z3 T4 Z4
    refine kk _ _ ?_
    clear kk
    go_upto_region 5 with fail
    rw [← HW5.out]
    go_step
    refine wpList_load_row rfl 35 _ rfl w2.heap.size rfl 35 t.cells.toArray (0, 0) _ T5.out Tryz.underlying35 rfl (by kernel_rfl) ?_
    refine wpList_store_row rfl 35 _ _ rfl w.heap.size t.cells.toArray rfl rfl 35 _ Z5.out (by kernel_rfl) rfl hone ?_
    obtain ⟨w6, hw6⟩ : ∃ w6, w6 = w5.setRow w.heap.size t.cells.toArray := ⟨_, rfl⟩
    have Z6 : Hid (w6.heap[w.heap.size]? = some (.cells t.cells.toArray 35 (0, 0))) := hide (by rw [hw6]; exact setRow_heap _ _ _ _ _ _ Z5.out)
    have HE : PBx w6 a (ts.eraseIdx k) (some ⟨g, 0, none⟩) c G F ∧ Keep w w6 F ∧ ∀ x, x < w.heap.size → x ≠ a → x ≠ g → w6.heap[x]? = w.heap[x]? := by
      have hN := HN.out
      refine pb_pull HP.out HK.out B3.out HG4.out (by rw [← hN]; exact HO4.out) (fun x hx => ?_) ?_ ?_ ?_ ?_
      · rw [hw6, setRow_other _ _ _ _ hx, HW5.out, hN]
      · rw [hw6, size_setRow, HW5.out]
        simp [World.setCell]
      · rw [hw6, HW5.out]; rfl
      · rw [hw6, HW5.out]; rfl
      · rw [hw6, HW5.out]; rfl
    have hgl : Glob w6 := HG.out.1.off (fun b A ty fr hb hA => by
      refine HE.2.2 b (Array.getElem?_eq_some_iff.1 hb).1 (fun e => ?_) (fun e => ?_)
      · rw [e, HP.out.b] at hb
        injection hb with hb
        injection hb with hb
        rw [← hb] at hA
        cases hA
      · obtain ⟨-, h1 | ⟨g', cap, cur, hv, -, hg', -, -, hsz, -⟩⟩ := HP.out.o
        · cases h1.1
        · injection hv with hv
          injection hv with hv
          injection hv with hv
          rw [e, hv, hg'] at hb
          injection hb with hb
          injection hb with hb
          rw [← hb] at hA
          omega)
    have hok6 := (HP.out.k t HIM.out w6 hgl (fun y hy => HE.2.2 y (HP.out.lt y (HP.out.gf y hy)) (fun e => HP.out.ga (e ▸ hy)) (fun e => HP.out.gp _ rfl (e ▸ hy)))).1
    have HOK6 := hide hok6
    have HEE := hide HE
    rw [← hw6]
    clear hw6 HE hgl hok6 HG4 HO4 T5 Z5 HW5
    go_wp2_with fail
    refine bodyPost_ret (results_row_tmp rfl _ _ w.heap.size 35 t.cells.toArray (0, 0) _ rfl Z6.out Tryz.underlying35 rfl (by kernel_rfl)) rfl ?_
    refine ⟨⟨t, true, (ts.eraseIdx k).map Im.m, F, rfl, HOK6.out, .inr ⟨rfl, k, rfl, HTM.out, pmap_erase _ _⟩, ⟨a, ts.eraseIdx k, _, c, G, rfl, rfl, HEE.out.1⟩, Near.refl _ _⟩, HEE.out.2.1⟩
  · rw [decide_eq_false hin]
    go_upto_region 2 with fail
    go_wp2_with (refine wpList_store_row rfl 35 _ _ rfl w.heap.size zmsg rfl rfl 35 _ Z2.out (by kernel_rfl) rfl (by simp [Value.oneCell']) ?_)
    have Z6 : Hid ((w2.setRow w.heap.size zmsg).heap[w.heap.size]? = some (.cells zmsg 35 (0, 0))) := hide (setRow_heap _ _ _ _ _ _ Z2.out)
    have B6 : Hid (Below w.heap.size w (w2.setRow w.heap.size zmsg)) := hide (below_row B2.out (Nat.le_refl _) _)
    refine bodyPost_ret (results_row_tmp rfl _ _ w.heap.size 35 zmsg (0, 0) _ rfl Z6.out Tryz.underlying35 rfl (by kernel_rfl)) rfl ?_
    refine ⟨⟨zimP, false, ts.map Im.m, F, rfl, zimP_ok _ (HG.out.below B6.out).1, .inl ⟨rfl, rfl, rfl, by rw [List.length_map]; omega⟩, ⟨a, ts, p, c, G, rfl, rfl, HP.out.below B6.out⟩, Near.refl _ _⟩, keep_in B6.out⟩
end Go.Proofs.YtmogplecohkjcaaGreatDoor

namespace Go.Proofs.YtmogplecohkjcaaGreatDoor
open Go.RowKit
open Utf1
open Pol8 hiding text right Right
open Msg15 Mail17

theorem mrow_cut {w : World} {p : Option Addr} {k c : Nat} {ts : List Im} (h : MRow w (.slice p k c) ts) : MRow w (.slice p k k) ts := by
  obtain ⟨p', c', e, hc, h0, hi⟩ := h
  injection e with e1 e2 e3
  subst e1 e2 e3
  exact ⟨p, ts.length, rfl, Nat.le_refl _, fun hp => by have := h0 hp; omega, hi⟩
/-- What is gathered so far, in blocks of its own. -/
structure Gat (w wr : World) (us : List Im) (q : Option Addr) (n d : Nat) (G : List Nat) : Prop where
  o : wr.ownsRow w.heap.size 35 15 (.slice q n d) n (mflat us)
  k : ∀ u ∈ us, Stay w.heap.size G wr u
  g : ∀ y ∈ G, y < wr.heap.size ∧ (Value.slice q n d).ownBlock ≠ some y
  bw : Below w.heap.size w wr
theorem gat_push {w wr W1 W8 W9 Wz : World} {us : List Im} {q q' : Option Addr} {n d n' d' : Nat} {G : List Nat} {t : Im} (h : Gat w wr us q n d G) (h1 : Below wr.heap.size wr W1) (h8 : Below W1.heap.size W1 W8) (hst : Stay W1.heap.size (newB W1 W8) W8 t) (h9 : Below W8.heap.size W8 W9)
    (hg : W9.grownBy Wz (Value.slice q n d).ownBlock) (ho : Wz.ownsRow w.heap.size 35 15 (.slice q' n' d') n' (mflat (us ++ [t]))) (hq : (Value.slice q' n' d').ownBlock = (Value.slice q n d).ownBlock ∨ (Value.slice q' n' d').ownBlock = some W9.heap.size) :
    Gat w Wz (us ++ [t]) q' n' d' (G ++ newB W1 W8) := by
  have s0 := h.bw.size
  have s1 := h1.size
  have s8 := h8.size
  have s9 := h9.size
  have sz := hg.size
  have hlt : ∀ x, (Value.slice q n d).ownBlock = some x → w.heap.size ≤ x ∧ x < wr.heap.size := fun x hx => h.o.lt x hx
  have hb9 : Below w.heap.size w W9 := bel2 (bel2 (bel2 h.bw h1) h8) h9
  refine ⟨ho, fun x hx => ?_, fun y hy => ?_, hb9.grown hg (by have := hb9.size; exact this) (fun k hk => (hlt k hk).1)⟩
  · rcases List.mem_append.1 hx with hx | hx
    · exact ((h.k x hx).to (fun y hy => by
        have hy1 := h.g y hy
        rw [hg.block y (by omega) (fun e => hy1.2 e.symm), h9.block y (by omega), h8.block y (by omega), h1.block y hy1.1])).more (fun y hy => List.mem_append_left _ hy)
    · rw [List.mem_singleton.1 hx]
      exact ((hst.le (by omega)).to (fun y hy => by
        have hy1 := (mem_newB s8).1 hy
        rw [hg.block y (by omega) (fun e => by have := (hlt y e.symm).2; omega), h9.block y hy1.2])).more (fun y hy => List.mem_append_right _ hy)
  · rcases List.mem_append.1 hy with hy | hy
    · have hy1 := h.g y hy
      refine ⟨by omega, fun e => ?_⟩
      rcases hq with hq | hq
      · exact hy1.2 (hq.symm.trans e)
      · rw [hq] at e
        injection e with e
        omega
    · have hy1 := (mem_newB s8).1 hy
      refine ⟨by omega, fun e => ?_⟩
      rcases hq with hq | hq
      · have := (hlt y (hq.symm.trans e)).2
        omega
      · rw [hq] at e
        injection e with e
        omega

set_option maxRecDepth 100000 in
set_option maxHeartbeats 16000000 in
theorem pall_any (w : World) (v : Value) (ms : List Ms) (F : List Nat) (hg : GlobM w) (h : PBox w v ms F) (hf : Fine ms) :
    Calls Tryz.prog 19 #[v] w fun e w' => (∃ u ts, e = .returned u ∧ MRow w' u ts ∧ ts.map Im.m = ms ∧ ∀ t ∈ ts, w'.ownsRow w.heap.size 9 1 t.vi t.ids.length (strV t.ids)) ∧ Below w.heap.size w w' := by
  obtain ⟨a, ts, p, c, G, rfl, rfl, h⟩ := h
  have HG := hide hg
  have HF := hide hf
  have hlen := hf.len
  rw [List.length_map] at hlen
  obtain ⟨N, hN⟩ : ∃ N, N = ts.length := ⟨_, rfl⟩
  have HROW : Hid (MRow w (.slice p N c) ts) := hide (by rw [hN]; exact h.row hg.1)
  have c0 : w.cell? ⟨a, 0, none⟩ = some (.slice p N c) := by rw [hN]; exact tag_cell h.b 0 _ rfl
  have hN96 : N ≤ 96 := by omega
  have HN := hide hN
  clear h hf hN hlen hg
  go_enter Tryz.func19, Tryz.ntmps19
  go_wp2_with fail
  go_loopg [3, 11] N (fun g v3 v11 wr => ∃ (j n d : Nat) (q : Option Addr) (us : List Im) (G : List Nat), j + g = N ∧ n = j ∧ v11 = .int .i64 (j : Int) ∧ v3 = .slice q n d ∧ Hid (Gat w wr us q n d G ∧ us.map Im.m = (ts.map Im.m).take j))
  case atStart => exact ⟨0, 0, 0, none, [], [], by omega, rfl, rfl, rfl, hide ⟨⟨World.ownsRow_nil _ _ _ _, fun u hu => (by cases hu), fun y hy => (by cases hy), Below.refl _ _⟩, rfl⟩⟩
  case round =>
    clear c0
    obtain ⟨j, n, d, q, us, G, hj, hnj, rfl, rfl, HI⟩ := hrel
    by_cases hlt : j < N
    · have dlt : decide ((j : Int) < (N : Int)) = true := decide_eq_true (by omega)
      obtain ⟨t, ht⟩ : ∃ t, ts[j]? = some t := ⟨_, List.getElem?_eq_getElem (by have := HN.out; omega)⟩
      have hjn : (ts.map Im.m)[j]? = some t.m := by rw [List.getElem?_map, ht]; rfl
      obtain ⟨b, off, rfl, hrg, hok⟩ := (HROW.out.below HI.out.1.bw).at ht
      have hone := im_one hok
      have HMM := hide (List.mem_of_getElem? hjn)
      have HJN := hide hjn
      obtain ⟨w1, hw1⟩ : ∃ w1, w1 = wr.alloc (.cells t.cells.toArray 35) := ⟨_, rfl⟩
      have B1 : Hid (Below wr.heap.size wr w1) := hide (by rw [hw1]; exact bel_alloc (Below.refl _ _) _)
      have T1 : Hid (w1.heap[wr.heap.size]? = some (.cells t.cells.toArray 35 (0, 0))) := hide (by rw [hw1]; exact new_block _ _ _)
      have BW1 : Hid (Below w.heap.size w w1) := hide (bel2 HI.out.1.bw B1.out)
      have CO := hide (mown_any t w1 (HG.out.below BW1.out) (hok.below B1.out) (HF.out.r _ HMM.out) (HF.out.s _ HMM.out))
      have HNJ := hide hnj
      clear ht hjn hok hnj
      go_upto_region 4 with fail
      go_upto_region 5 with (first
        | (refine wpList_load_mid rfl 35 _ rfl b (off + j * 15) rfl t.cells _ hrg Tryz.underlying35 rfl (by kernel_rfl) ?_)
        | (refine wpList_store_row rfl 35 _ _ rfl wr.heap.size t.cells.toArray rfl rfl 35 _ (new_block _ _ _) (by kernel_rfl) rfl hone ?_; rw [World.setRow_alloc_new]))
      rw [← hw1]
      clear hw1 hrg hone
      go_wp2_with (refine wpList_load_row rfl 35 _ rfl wr.heap.size rfl 35 t.cells.toArray (0, 0) _ T1.out Tryz.underlying35 rfl (by kernel_rfl) ?_)
      rename_i kk
      refine CO.out.mono ?_
      rintro e w8 ⟨⟨t', rfl, hm', hst⟩, hb8⟩
      obtain ⟨w9, hw9⟩ : ∃ z, z = w8.alloc (.cells #[.int .i64 t'.m.kind, .int .i64 t'.m.fr, .int .i64 t'.m.to, .int .i64 t'.m.ep, t'.vi, t'.vp, .int .i64 t'.m.pol.ep, t'.v1, t'.v2, t'.v3, t'.v4, t'.v5, .int .i64 t'.m.pol.dp, .int .i64 t'.m.pol.nd, .int .i64 t'.m.pol.bt] 35) := ⟨_, rfl⟩
      have B8 := hide hb8
      have HM' := hide hm'
      have HST := hide hst
      have B89 : Hid (Below w8.heap.size w8 w9) := hide (by rw [hw9]; exact bel_alloc (Below.refl _ _) _)
      have BW8 : Hid (Below w.heap.size w w8) := hide (bel2 BW1.out hb8)
      have R9 : Hid (MRow w9 (.slice (some ⟨w8.heap.size, 0, none⟩) 1 1) [t']) := hide (mone_row (by rw [hw9]; exact new_block _ _ _) ((hst.ok (HG.out.below BW8.out).1).below B89.out))
      have O9 : Hid (w9.ownsRow w.heap.size 35 15 (.slice q n d) n (mflat us)) := hide (HI.out.1.o.kept (row := none) (below_grown (bel2 (bel2 B1.out hb8) B89.out)) (Classical.em _))
      have S9 : Hid (w.heap.size ≤ w9.heap.size) := hide (by have := BW8.out.size; have := B89.out.size; omega)
      clear hb8 hm' hst CO T1
      refine kk _ _ ?_
      clear kk
      go_step
      rename_i kk
      go_simp
      refine kk _ _ ?_
      clear kk
      rw [← hw9]
      clear hw9
      refine wpList_plain rfl fun J hJ => mwp_rows _ _ rfl w.heap.size (.slice q n d) n us rfl O9.out (.slice (some ⟨w8.heap.size, 0, none⟩) 1 1) [t'] rfl R9.out (by have := HNJ.out; simp only [List.length_cons, List.length_nil]; omega) S9.out (fun v' wz ho hg hf => hJ _ _ ?_)
      obtain ⟨nn, hnn⟩ : ∃ z, z = n + ([t'] : List Im).length := ⟨_, rfl⟩
      rw [← hnn] at ho
      obtain ⟨q2, d2, rfl, -⟩ := own_shape ho
      have HNN : Hid (nn = j + 1) := hide (by rw [hnn, HNJ.out]; rfl)
      have HNX : Hid (Gat w wz (us ++ [t']) q2 nn d2 (G ++ newB w1 w8) ∧ (us ++ [t']).map Im.m = (ts.map Im.m).take (j + 1)) := hide ⟨gat_push HI.out.1 B1.out B8.out HST.out B89.out hg ho hf, by rw [List.map_append, HI.out.2, List.take_add_one, HJN.out, List.map_cons, List.map_nil, HM'.out]; rfl⟩
      clear ho hg hf hnn hJ
      go_wp2_with fail
      go_roundg (N - (j + 1))
      case measure => omega
      case rel => exact ⟨j + 1, nn, d2, q2, us ++ [t'], G ++ newB w1 w8, by omega, HNN.out, by first | rfl | (push_cast; rfl), rfl, HNX⟩
    · have hjN : j = N := by omega
      subst hjN
      have dlt : decide ((j : Int) < (j : Int)) = false := by simp
      have HR : Hid (MRow wr (.slice q n n) us) := hide (by
        have hnu : us.length = n := by
          have h1 := HI.out.1.o.1
          rw [mflat_len] at h1
          omega
        exact mrow_cut (OwnM.row (B := w.heap.size) ⟨by rw [hnu]; exact HI.out.1.o, fun u hu => (HI.out.1.k u hu).ok (HG.out.below HI.out.1.bw).1⟩))
      have HO : Hid (∀ u ∈ us, wr.ownsRow w.heap.size 9 1 u.vi u.ids.length (strV u.ids)) := hide (fun u hu => (HI.out.1.k u hu wr (HG.out.below HI.out.1.bw).1 (fun _ _ => rfl)).2.own)
      have HE : Hid (us.map Im.m = ts.map Im.m) := hide (by rw [HI.out.2, List.take_of_length_le (by rw [List.length_map]; have := HN.out; omega)])
      have HB := hide HI.out.1.bw
      have hnd : n ≤ d := by
        rcases HI.out.1.o.2 with h | ⟨g, cap, cur, hv, -, -, hc, -⟩
        · omega
        · injection hv with e1 e2 e3
          omega
      clear hnj
      go_wp2_with fail
      go_ret
      exact ⟨⟨_, us, rfl, HR.out, HE.out, HO.out⟩, HB.out⟩

/-- All that is asked of package mail. -/
theorem mailC : MailC PBox where
  ptr := fun h => by
    obtain ⟨a, ts, p, c, G, rfl, -, -⟩ := h
    exact ⟨_, rfl⟩
  lt := fun h => by
    obtain ⟨a, ts, p, c, G, rfl, -, h⟩ := h
    exact h.lt
  stay := fun h hw => h.stay hw
  new := fun w _ => pnew_any w
  put := fun w v ms F t hg h hf ht hs => pput_any w v ms F t hg h hf ht hs
  take := fun w v ms F n hg h hf _ => ptake_any w v ms F n hg h hf
  twice := fun w v ms F n hg h hf _ => ptwice_any w v ms F n hg h hf
  all := fun w v ms F hg h hf => pall_any w v ms F hg h hf
  many := fun w v ms F hg h hf => by
    obtain ⟨a, ts, p, c, G, rfl, rfl, h⟩ := h
    exact pmany_any w a ts p c G F hg.1 h hf
end Go.Proofs.YtmogplecohkjcaaGreatDoor
