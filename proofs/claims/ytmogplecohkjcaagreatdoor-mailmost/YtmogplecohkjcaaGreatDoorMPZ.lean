/-
  What stays of a message whose lists are in blocks of their own; package mail's own.
-/
import Derived.Test.YtmogplecohkjcaaGreatDoorDBA
import Derived.Test.YtmogplecohkjcaaGreatDoorME10
import Derived.Deep.LoopGhost
import Derived.Deep.WholeRow
namespace Go.Proofs.YtmogplecohkjcaaGreatDoor
open Go.RowKit
open Utf1
open Pol8 hiding text right Right
open Msg15 Mail17

theorem cell_lt {w : World} {b o : Nat} {v : Value} (h : w.cell? ⟨b, o, none⟩ = some v) : b < w.heap.size := by
  unfold World.cell? at h
  cases hb : w.heap[b]? with
  | none => simp [hb] at h
  | some x => exact (Array.getElem?_eq_some_iff.1 hb).1
theorem cell_in {w w' : World} {b o B : Nat} {v : Value} (h : w.cell? ⟨b, o, none⟩ = some v) (hb : B ≤ b) (hw : ∀ k, B ≤ k → k < w.heap.size → w'.heap[k]? = w.heap[k]?) : w'.cell? ⟨b, o, none⟩ = some v := by
  have hl := cell_lt h
  unfold World.cell? at h ⊢
  rw [hw b hb hl]
  exact h
theorem strArg_in {w w' : World} {v : Value} {ss : List ByteArray} {B : Nat} (h : StrArg w v ss) (hn : NbV B v) (hw : ∀ k, B ≤ k → k < w.heap.size → w'.heap[k]? = w.heap[k]?) : StrArg w' v ss := by
  obtain ⟨p, cap, rfl, h0, hc⟩ := h
  refine ⟨p, cap, rfl, h0, fun i s hi => ?_⟩
  obtain ⟨b, off, e, k⟩ := hc i s hi
  exact ⟨b, off, e, cell_in k (hn b off _ _ (by rw [e])) hw⟩
theorem postRow_in {w w' : World} {v : Value} {ts : List (ByteArray × ByteArray)} {B : Nat} (h : PostRow w v ts) (hn : NbV B v) (hw : ∀ k, B ≤ k → k < w.heap.size → w'.heap[k]? = w.heap[k]?) : PostRow w' v ts := by
  obtain ⟨p, cap, rfl, hc, h0, hi⟩ := h
  refine ⟨p, cap, rfl, hc, h0, fun i a b hab => ?_⟩
  obtain ⟨g, off, e, k1, k2⟩ := hi i a b hab
  exact ⟨g, off, e, cell_in k1 (hn g off _ _ (by rw [e])) hw, cell_in k2 (hn g off _ _ (by rw [e])) hw⟩
/-- A message stays, and is in blocks from B on, where these blocks stay. -/
def Stay (B : Nat) (G : List Nat) (w : World) (t : Im) : Prop := ∀ w', Glob w' → (∀ k ∈ G, w'.heap[k]? = w.heap[k]?) → t.ok w' ∧ Frs B w' t.ids t.vi t.vp t.v1 t.v2 t.v3 t.v4 t.v5
theorem Stay.more {B : Nat} {G G' : List Nat} {w : World} {t : Im} (h : Stay B G w t) (hG : ∀ k ∈ G, k ∈ G') : Stay B G' w t := fun w' hg hw => h w' hg (fun k hk => hw k (hG k hk))
theorem Stay.to {B : Nat} {G : List Nat} {w w1 : World} {t : Im} (h : Stay B G w t) (hw : ∀ k ∈ G, w1.heap[k]? = w.heap[k]?) : Stay B G w1 t := fun w' hg h' => h w' hg (fun k hk => (h' k hk).trans (hw k hk))
theorem Stay.ok {B : Nat} {G : List Nat} {w : World} {t : Im} (h : Stay B G w t) (hg : Glob w) : t.ok w := (h w hg (fun _ _ => rfl)).1
theorem Stay.le {A B : Nat} {G : List Nat} {w : World} {t : Im} (h : Stay B G w t) (hA : A ≤ B) : Stay A G w t := fun w' hg hw => ⟨(h w' hg hw).1, (h w' hg hw).2.le hA⟩
/-- The blocks that are new. -/
def newB (w w' : World) : List Nat := List.range' w.heap.size (w'.heap.size - w.heap.size)
theorem mem_newB {w w' : World} {k : Nat} (hb : w.heap.size ≤ w'.heap.size) : k ∈ newB w w' ↔ w.heap.size ≤ k ∧ k < w'.heap.size := by
  unfold newB
  rw [List.mem_range'_1]
  omega
theorem stay_new {w w1 : World} {t : Im} (hb : w.heap.size ≤ w1.heap.size) (hk : t.ok w1) (hf : Frs w.heap.size w1 t.ids t.vi t.vp t.v1 t.v2 t.v3 t.v4 t.v5) : Stay w.heap.size (newB w w1) w1 t := fun w' hg hw0 => by
  have hw : ∀ k, w.heap.size ≤ k → k < w1.heap.size → w'.heap[k]? = w1.heap[k]? := fun k h1 h2 => hw0 k ((mem_newB hb).2 ⟨h1, h2⟩)
  refine ⟨⟨strArg_in hk.hi (own_nb hf.own) hw, postRow_in hk.hp hf.np hw, ⟨strArg_in hk.hv.s1 hf.n5.n1 hw, strArg_in hk.hv.s2 hf.n5.n2 hw, strArg_in hk.hv.s3 hf.n5.n3 hw, strArg_in hk.hv.s4 hf.n5.n4 hw, strArg_in hk.hv.s5 hf.n5.n5 hw, hk.hv.e1, hk.hv.e2, hk.hv.e3, hk.hv.e4, hk.hv.e5, hg⟩, hk.ei, hk.ep, hk.hf, hk.li, hk.lp⟩, ?_, hf.np, hf.n5⟩
  obtain ⟨h1, h2 | ⟨k, cap, cur, hv, hB, hk, hr⟩⟩ := hf.own
  · exact ⟨h1, .inl h2⟩
  · exact ⟨h1, .inr ⟨k, cap, cur, hv, hB, (hw k hB (Array.getElem?_eq_some_iff.1 hk).1).trans hk, hr⟩⟩

theorem noS_im {w : World} {t : Im} (h : t.ok w) : noS t.cells.toArray := by
  obtain ⟨pi, ni, ci, pp, np, cp, p1, n1, c1, p2, n2, c2, p3, n3, c3, p4, n4, c4, p5, n5, c5, ei, ep, e1, e2, e3, e4, e5⟩ := Im.shape h
  intro j y hj
  have hm := Array.mem_of_getElem? hj
  simp [ei, ep, e1, e2, e3, e4, e5] at hm
set_option maxRecDepth 100000 in
set_option maxHeartbeats 16000000 in
/-- A message that may be, and is not too long, told again in blocks of its own. -/
theorem mown_any (t : Im) (w : World) (hg : GlobM w) (ht : t.ok w) (hr : MRight t.m) (hs : Sml t.m) :
    Calls Tryz.prog 30 #[t.val] w fun e w' => (∃ t' : Im, e = .returned t'.val ∧ t'.m = t.m ∧ Stay w.heap.size (newB w w') w' t') ∧ Below w.heap.size w w' := by
  have HG := hide hg
  have HR := hide hr
  have HS := hide hs
  obtain ⟨w1, hw1⟩ : ∃ w1, w1 = (w.alloc (.cells t.cells.toArray 35)).alloc (.cells zmsg 35) := ⟨_, rfl⟩
  have B1 : Hid (Below w.heap.size w w1) := hide (by rw [hw1]; exact bel_alloc (bel_alloc (Below.refl _ _) _) _)
  have K1 : Hid (w1.heap[w.heap.size]? = some (.cells t.cells.toArray 35 (0, 0))) := hide (by
    rw [hw1, Below.heap_alloc _ _ _ (by simp)]
    exact new_block _ _ _)
  have N1 : Hid (w1.heap[w.heap.size + 1]? = some (.cells zmsg 35 (0, 0))) := hide (by
    have h := new_block (w.alloc (.cells t.cells.toArray 35)) zmsg 35
    have e : (w.alloc (.cells t.cells.toArray 35)).heap.size = w.heap.size + 1 := by simp
    rw [e] at h
    rw [hw1]
    exact h)
  have C1 := hide (eencode_any t.m t.vi t.vp t.v1 t.v2 t.v3 t.v4 t.v5 t.ids t.ts t.l1 t.l2 t.l3 t.l4 t.l5 w1 (ht.below B1.out))
  have y0 := tag_cell K1.out 0 _ rfl
  have y1 := tag_cell K1.out 1 _ rfl
  have y2 := tag_cell K1.out 2 _ rfl
  have y3 := tag_cell K1.out 3 _ rfl
  have y4 := tag_cell K1.out 4 _ rfl
  have y5 := tag_cell K1.out 5 _ rfl
  have y6 := tag_cell K1.out 6 _ rfl
  have y7 := tag_cell K1.out 7 _ rfl
  have y8 := tag_cell K1.out 8 _ rfl
  have y9 := tag_cell K1.out 9 _ rfl
  have y10 := tag_cell K1.out 10 _ rfl
  have y11 := tag_cell K1.out 11 _ rfl
  have y12 := tag_cell K1.out 12 _ rfl
  have y13 := tag_cell K1.out 13 _ rfl
  have y14 := tag_cell K1.out 14 _ rfl
  have HNS := hide (noS_im ht)
  clear hg hr hs ht
  go_enter Tryz.func30, Tryz.ntmps30
  go_upto_region 1 with fail
  rw [← hw1]
  clear hw1
  go_wp2_with fail
  refine C1.out.mono ?_
  rintro e w2 ⟨hq, hb2⟩
  have K2 : Hid (w2.heap[w.heap.size]? = some (.cells t.cells.toArray 35 (0, 0))) := hide ((hb2.block _ (Array.getElem?_eq_some_iff.1 K1.out).1).trans K1.out)
  have N2 : Hid (w2.heap[w.heap.size + 1]? = some (.cells zmsg 35 (0, 0))) := hide ((hb2.block _ (Array.getElem?_eq_some_iff.1 N1.out).1).trans N1.out)
  have B2 : Hid (Below w.heap.size w w2) := hide (bel2 B1.out hb2)
  rcases hq with ⟨-, rfl⟩ | ⟨hn, -⟩
  case inr => exact absurd HR.out hn
  obtain ⟨T, hT⟩ : ∃ T : ByteArray, T = ⟨(textM t.m).toArray⟩ := ⟨_, rfl⟩
  have hTb : bl T = textM t.m := by rw [hT]
  have hTs : T.size ≤ 99999 := by rw [← bl_len, hTb]; exact HS.out
  rw [← hT]
  have C2 := hide (edecode_any T hTs w2 (HG.out.below B2.out).1 (HG.out.below B2.out).2)
  rw [hTb] at C2
  clear hTb hTs hT hb2 C1 K1 N1 B1 y0 y1 y2 y3 y4 y5 y6 y7 y8 y9 y10 y11 y12 y13 y14
  go_wp2_with fail
  rename_i kk
  refine C2.out.mono ?_
  rintro e w3 ⟨⟨m, z, vi, vp, v1, v2, v3, v4, v5, ids, ts, l1, l2, l3, l4, l5, rfl, hmv, hdc, hfr⟩, hb3⟩
  obtain ⟨hm, -⟩ := hdc.one (dcd_text HR.out)
  obtain ⟨pi, ni, ci, pp, np, cp, p1, n1, c1, p2, n2, c2, p3, n3, c3, p4, n4, c4, p5, n5, c5, ei, ep, e1, e2, e3, e4, e5⟩ := Im.shape (t := ⟨m, vi, vp, v1, v2, v3, v4, v5, ids, ts, l1, l2, l3, l4, l5⟩) hmv
  dsimp only at ei ep e1 e2 e3 e4 e5
  subst ei ep e1 e2 e3 e4 e5
  have HM := hide hm
  have HMV := hide hmv
  have HFR := hide (hfr.le B2.out.size)
  have K3 : Hid (w3.heap[w.heap.size]? = some (.cells t.cells.toArray 35 (0, 0))) := hide ((hb3.block _ (Array.getElem?_eq_some_iff.1 K2.out).1).trans K2.out)
  have N3 : Hid (w3.heap[w.heap.size + 1]? = some (.cells zmsg 35 (0, 0))) := hide ((hb3.block _ (Array.getElem?_eq_some_iff.1 N2.out).1).trans N2.out)
  have B3 : Hid (Below w.heap.size w w3) := hide (bel2 B2.out hb3)
  clear hm hmv hfr hdc hb3 C2 K2 N2 B2
  refine kk _ _ ?_
  clear kk
  go_step
  rename_i kk
  go_simp
  refine kk _ _ ?_
  clear kk
  go_step
  rename_i kk
  go_simp
  refine kk _ _ ?_
  clear kk
  go_step
  rename_i kk
  go_simp
  refine kk _ _ ?_
  clear kk
  refine wpList_store_row rfl 35 _ _ rfl w.heap.size #[.int .i64 m.kind, .int .i64 m.fr, .int .i64 m.to, .int .i64 m.ep, .slice pi ni ci, .slice pp np cp, .int .i64 m.pol.ep, .slice p1 n1 c1, .slice p2 n2 c2, .slice p3 n3 c3, .slice p4 n4 c4, .slice p5 n5 c5, .int .i64 m.pol.dp, .int .i64 m.pol.nd, .int .i64 m.pol.bt] rfl rfl 35 _ K3.out (by kernel_rfl) rfl (by simp [Value.oneCell']) ?_
  obtain ⟨w4, hw4⟩ : ∃ w4, w4 = w3.setRow w.heap.size #[.int .i64 m.kind, .int .i64 m.fr, .int .i64 m.to, .int .i64 m.ep, .slice pi ni ci, .slice pp np cp, .int .i64 m.pol.ep, .slice p1 n1 c1, .slice p2 n2 c2, .slice p3 n3 c3, .slice p4 n4 c4, .slice p5 n5 c5, .int .i64 m.pol.dp, .int .i64 m.pol.nd, .int .i64 m.pol.bt] := ⟨_, rfl⟩
  have K4 : Hid (w4.heap[w.heap.size]? = some (.cells #[.int .i64 m.kind, .int .i64 m.fr, .int .i64 m.to, .int .i64 m.ep, .slice pi ni ci, .slice pp np cp, .int .i64 m.pol.ep, .slice p1 n1 c1, .slice p2 n2 c2, .slice p3 n3 c3, .slice p4 n4 c4, .slice p5 n5 c5, .int .i64 m.pol.dp, .int .i64 m.pol.nd, .int .i64 m.pol.bt] 35 (0, 0))) := hide (by rw [hw4]; exact setRow_heap _ _ _ _ _ _ K3.out)
  have N4 : Hid (w4.heap[w.heap.size + 1]? = some (.cells zmsg 35 (0, 0))) := hide (by rw [hw4, setRow_other _ _ _ _ (by omega)]; exact N3.out)
  have O4 : Hid (∀ j, j ≠ w.heap.size → w4.heap[j]? = w3.heap[j]?) := hide (fun j hj => by rw [hw4]; exact setRow_other _ _ _ _ hj)
  have B4 : Hid (Below w.heap.size w w4) := hide (by rw [hw4]; exact below_row B3.out (Nat.le_refl _) _)
  have M4 := hide (HMV.out.at' (w' := w4) K3.out HNS.out (fun j hj => O4.out j hj) (HG.out.below B4.out).1)
  have F4 := hide (HFR.out.off (w' := w4) K3.out (by decide) (fun j hj => O4.out j hj))
  rw [← hw4]
  clear hw4 K3 N3 O4 HMV HFR B3
  go_upto_region 3 with fail
  go_step
  refine wpList_load_row rfl 35 _ rfl w.heap.size rfl 35 #[.int .i64 m.kind, .int .i64 m.fr, .int .i64 m.to, .int .i64 m.ep, .slice pi ni ci, .slice pp np cp, .int .i64 m.pol.ep, .slice p1 n1 c1, .slice p2 n2 c2, .slice p3 n3 c3, .slice p4 n4 c4, .slice p5 n5 c5, .int .i64 m.pol.dp, .int .i64 m.pol.nd, .int .i64 m.pol.bt] (0, 0) _ K4.out Tryz.underlying35 rfl (by kernel_rfl) ?_
  refine wpList_store_row rfl 35 _ _ rfl (w.heap.size + 1) #[.int .i64 m.kind, .int .i64 m.fr, .int .i64 m.to, .int .i64 m.ep, .slice pi ni ci, .slice pp np cp, .int .i64 m.pol.ep, .slice p1 n1 c1, .slice p2 n2 c2, .slice p3 n3 c3, .slice p4 n4 c4, .slice p5 n5 c5, .int .i64 m.pol.dp, .int .i64 m.pol.nd, .int .i64 m.pol.bt] rfl rfl 35 _ N4.out (by kernel_rfl) rfl (by simp [Value.oneCell']) ?_
  obtain ⟨w5, hw5⟩ : ∃ w5, w5 = w4.setRow (w.heap.size + 1) #[.int .i64 m.kind, .int .i64 m.fr, .int .i64 m.to, .int .i64 m.ep, .slice pi ni ci, .slice pp np cp, .int .i64 m.pol.ep, .slice p1 n1 c1, .slice p2 n2 c2, .slice p3 n3 c3, .slice p4 n4 c4, .slice p5 n5 c5, .int .i64 m.pol.dp, .int .i64 m.pol.nd, .int .i64 m.pol.bt] := ⟨_, rfl⟩
  have N5 : Hid (w5.heap[w.heap.size + 1]? = some (.cells #[.int .i64 m.kind, .int .i64 m.fr, .int .i64 m.to, .int .i64 m.ep, .slice pi ni ci, .slice pp np cp, .int .i64 m.pol.ep, .slice p1 n1 c1, .slice p2 n2 c2, .slice p3 n3 c3, .slice p4 n4 c4, .slice p5 n5 c5, .int .i64 m.pol.dp, .int .i64 m.pol.nd, .int .i64 m.pol.bt] 35 (0, 0))) := hide (by rw [hw5]; exact setRow_heap _ _ _ _ _ _ N4.out)
  have B5 : Hid (Below w.heap.size w w5) := hide (by rw [hw5]; exact below_row B4.out (Nat.le_succ _) _)
  have M5 := hide (M4.out.at' (w' := w5) N4.out noS_zmsg (fun j hj => by rw [hw5]; exact setRow_other _ _ _ _ hj) (HG.out.below B5.out).1)
  have F5 := hide (F4.out.off (w' := w5) N4.out (by decide) (fun j hj => by rw [hw5]; exact setRow_other _ _ _ _ hj))
  rw [← hw5]
  clear hw5 K4 N4 M4 F4 B4
  go_wp2_with fail
  refine bodyPost_ret (results_cell_row rfl _ _ (w.heap.size + 1) 35 #[.int .i64 m.kind, .int .i64 m.fr, .int .i64 m.to, .int .i64 m.ep, .slice pi ni ci, .slice pp np cp, .int .i64 m.pol.ep, .slice p1 n1 c1, .slice p2 n2 c2, .slice p3 n3 c3, .slice p4 n4 c4, .slice p5 n5 c5, .int .i64 m.pol.dp, .int .i64 m.pol.nd, .int .i64 m.pol.bt] (0, 0) _ rfl N5.out Tryz.underlying35 rfl (by kernel_rfl)) rfl ?_
  exact ⟨⟨⟨m, .slice pi ni ci, .slice pp np cp, .slice p1 n1 c1, .slice p2 n2 c2, .slice p3 n3 c3, .slice p4 n4 c4, .slice p5 n5 c5, ids, ts, l1, l2, l3, l4, l5⟩, rfl, HM.out, stay_new B5.out.size M5.out F5.out⟩, B5.out⟩
end Go.Proofs.YtmogplecohkjcaaGreatDoor

namespace Go.Proofs.YtmogplecohkjcaaGreatDoor
open Go.RowKit
open Utf1
open Pol8 hiding text right Right
open Msg15 Mail17

theorem im_one {w : World} {t : Im} (h : t.ok w) : t.cells.toArray.all (·.oneCell') = true :=
  all_oneCell_toArray (fun v hv => mflat_one_cell (ts := [t]) (w := w) (fun x hx => by rw [List.mem_singleton.1 hx]; exact h) v (by rw [mflat_one]; exact hv))
theorem cntA_size (ms : List Ms) : (Tryz.prog.info? 47).map (·.size) = some (cntA ms).size := by
  have h : (Tryz.prog.info? 47).map (·.size) = some 6 := by kernel_rfl
  exact h
theorem cntA_one (ms : List Ms) : (cntA ms).all (·.oneCell') = true := by simp [cntA, Value.oneCell']
/-- The box: where it is, its row, its messages, the blocks in which they stay, all its blocks. -/
structure PBx (w : World) (a : Nat) (ts : List Im) (p : Option Addr) (c : Nat) (G F : List Nat) : Prop where
  b : w.heap[a]? = some (.cells #[.slice p ts.length c] 55 (0, 0))
  o : w.ownsRow 0 35 15 (.slice p ts.length c) ts.length (mflat ts)
  k : ∀ t ∈ ts, Stay 0 G w t
  ga : a ∉ G
  gp : ∀ q, p = some q → q.block ∉ G
  gf : ∀ k ∈ G, k ∈ F
  fa : a ∈ F
  fp : ∀ q, p = some q → q.block ∈ F
  lt : ∀ k ∈ F, k < w.heap.size
def PBox (w : World) (v : Value) (ms : List Ms) (F : List Nat) : Prop := ∃ a ts p c G, v = .pointer (some ⟨a, 0, none⟩) ∧ ts.map Im.m = ms ∧ PBx w a ts p c G F
theorem own_same {w w' : World} {B : Nat} {e : TypeId} {sz n k c : Nat} {p : Option Addr} {xs : List Value} (h : w.ownsRow B e sz (.slice p k c) n xs) (hw : ∀ q, p = some q → w'.heap[q.block]? = w.heap[q.block]?) : w'.ownsRow B e sz (.slice p k c) n xs := by
  obtain ⟨h1, h2 | ⟨g, cap, cur, hv, hb, hg, hr⟩⟩ := h
  · exact ⟨h1, .inl h2⟩
  · refine ⟨h1, .inr ⟨g, cap, cur, hv, hb, ?_, hr⟩⟩
    injection hv with e1 e2 e3
    rw [← hg]
    exact hw ⟨g, 0, none⟩ e1
theorem PBx.stay {w w' : World} {a : Nat} {ts : List Im} {p : Option Addr} {c : Nat} {G F : List Nat} (h : PBx w a ts p c G F) (hw : ∀ k ∈ F, w'.heap[k]? = w.heap[k]?) : PBx w' a ts p c G F :=
  ⟨(hw a h.fa).trans h.b, own_same h.o (fun q hq => hw _ (h.fp q hq)), fun t ht => (h.k t ht).to (fun k hk => hw k (h.gf k hk)), h.ga, h.gp, h.gf, h.fa, h.fp, fun k hk => by
    have h1 := hw k hk
    rw [Array.getElem?_eq_getElem (h.lt k hk)] at h1
    exact (Array.getElem?_eq_some_iff.1 h1).1⟩
theorem PBx.below {w w' : World} {a : Nat} {ts : List Im} {p : Option Addr} {c : Nat} {G F : List Nat} (h : PBx w a ts p c G F) (hb : Below w.heap.size w w') : PBx w' a ts p c G F := h.stay (fun k hk => hb.block k (h.lt k hk))
theorem PBx.row {w : World} {a : Nat} {ts : List Im} {p : Option Addr} {c : Nat} {G F : List Nat} (h : PBx w a ts p c G F) (hg : Glob w) : MRow w (.slice p ts.length c) ts := OwnM.row ⟨h.o, fun t ht => (h.k t ht).ok hg⟩
theorem PBox.stay {w w' : World} {v : Value} {ms : List Ms} {F : List Nat} (h : PBox w v ms F) (hw : ∀ k ∈ F, w'.heap[k]? = w.heap[k]?) : PBox w' v ms F := by
  obtain ⟨a, ts, p, c, G, h1, h2, h3⟩ := h
  exact ⟨a, ts, p, c, G, h1, h2, h3.stay hw⟩

set_option maxRecDepth 100000 in
set_option maxHeartbeats 4000000 in
theorem pnew_any (w : World) : Calls Tryz.prog 9 #[] w fun e w' => (∃ v F, e = .returned v ∧ PBox w' v [] F ∧ ∀ k ∈ F, w.heap.size ≤ k) ∧ Below w.heap.size w w' := by
  go_enter Tryz.func9, Tryz.ntmps9
  go_wp2_with fail
  go_ret
  refine ⟨⟨_, [w.heap.size], rfl, ⟨w.heap.size, [], none, 0, [], rfl, rfl, new_block _ _ _, World.ownsRow_nil _ _ _ _, fun t ht => (by cases ht), fun h => (by cases h), fun q h => (by cases h), fun k h => (by cases h), List.mem_singleton.2 rfl, fun q h => (by cases h), fun k hk => ?_⟩, fun k hk => ?_⟩, bel_alloc (Below.refl _ _) _⟩
  · rw [List.mem_singleton.1 hk]
    simp
  · rw [List.mem_singleton.1 hk]
    exact Nat.le_refl _

set_option maxRecDepth 100000 in
set_option maxHeartbeats 16000000 in
theorem pmany_any (w : World) (a : Nat) (ts : List Im) (p : Option Addr) (c : Nat) (G F : List Nat) (hg : Glob w) (h : PBx w a ts p c G F) (hf : Fine (ts.map Im.m)) :
    Calls Tryz.prog 20 #[.pointer (some ⟨a, 0, none⟩)] w fun e w' => e = .returned (.agg (cntA (ts.map Im.m))) ∧ Below w.heap.size w w' := by
  have HF := hide hf
  have hlen := hf.len
  rw [List.length_map] at hlen
  obtain ⟨N, hN⟩ : ∃ N, N = ts.length := ⟨_, rfl⟩
  have HROW : Hid (MRow w (.slice p N c) ts) := hide (by rw [hN]; exact h.row hg)
  have c0 : Hid (w.cell? ⟨a, 0, none⟩ = some (.slice p N c)) := hide (by rw [hN]; exact tag_cell h.b 0 _ rfl)
  have hN96 : N ≤ 96 := by omega
  have HN := hide hN
  obtain ⟨w1, hw1⟩ : ∃ w1, w1 = (w.alloc (.cells #[.int .i64 0, .int .i64 0, .int .i64 0, .int .i64 0, .int .i64 0, .int .i64 0] 47)).alloc (.cells #[.int .i64 0, .int .i64 0, .int .i64 0, .int .i64 0, .int .i64 0, .int .i64 0] 47) := ⟨_, rfl⟩
  have H1 : Hid (w1.heap[w.heap.size]? = some (.cells #[.int .i64 0, .int .i64 0, .int .i64 0, .int .i64 0, .int .i64 0, .int .i64 0] 47 (0, 0)) ∧ w1.heap[w.heap.size + 1]? = some (.cells (cntA ((ts.map Im.m).take 0)) 47 (0, 0)) ∧ Below w.heap.size w w1) := hide (by
    rw [hw1]
    have e2 : (w.alloc (.cells #[.int .i64 0, .int .i64 0, .int .i64 0, .int .i64 0, .int .i64 0, .int .i64 0] 47)).heap.size = w.heap.size + 1 := by simp
    refine ⟨?_, ?_, bel_alloc (bel_alloc (Below.refl _ _) _) _⟩
    · rw [Below.heap_alloc _ _ _ (by rw [e2]; omega)]
      exact new_block _ _ _
    · have h := new_block (w.alloc (.cells #[.int .i64 0, .int .i64 0, .int .i64 0, .int .i64 0, .int .i64 0, .int .i64 0] 47)) #[.int .i64 0, .int .i64 0, .int .i64 0, .int .i64 0, .int .i64 0, .int .i64 0] 47
      rw [e2] at h
      exact h)
  have z0 := cell_keep c0.out H1.out.2.2
  clear h hf hN hlen hg
  go_enter Tryz.func20, Tryz.ntmps20
  go_upto_region 2 with fail
  rw [← hw1]
  clear hw1
  go_wp2_with fail
  go_loopg [11] N (fun g v11 wr => ∃ j : Nat, j + g = N ∧ v11 = .int .i64 (j : Int) ∧ Hid (wr.heap[w.heap.size]? = some (.cells #[.int .i64 0, .int .i64 0, .int .i64 0, .int .i64 0, .int .i64 0, .int .i64 0] 47 (0, 0)) ∧ wr.heap[w.heap.size + 1]? = some (.cells (cntA ((ts.map Im.m).take j)) 47 (0, 0)) ∧ Below w.heap.size w wr))
  case atStart => exact ⟨0, by omega, rfl, H1⟩
  case round =>
    clear z0 H1
    obtain ⟨j, hj, rfl, HI⟩ := hrel
    by_cases hlt : j < N
    · have dlt : decide ((j : Int) < (N : Int)) = true := decide_eq_true (by omega)
      obtain ⟨t, ht⟩ : ∃ t, ts[j]? = some t := ⟨_, List.getElem?_eq_getElem (by have := HN.out; omega)⟩
      have hjn : (ts.map Im.m)[j]? = some t.m := by rw [List.getElem?_map, ht]; rfl
      obtain ⟨b, off, rfl, hrg, hok⟩ := (HROW.out.below HI.out.2.2).at ht
      have hone := im_one hok
      have hto := (HF.out.r t.m (List.mem_of_getElem? hjn)).to
      obtain ⟨X, hX⟩ : ∃ X : Nat, t.m.to = (X : Int) := ⟨t.m.to.toNat, by omega⟩
      have hX6 : X < 6 := by omega
      obtain ⟨K, hK⟩ : ∃ K, K = cnt (X : Int) ((ts.map Im.m).take j) := ⟨_, rfl⟩
      have hK16 : K ≤ 16 := by
        rw [hK]
        exact Nat.le_trans (cnt_sub (List.take_sublist _ _)) (HF.out.c _)
      obtain ⟨ws, hws⟩ : ∃ ws, ws = wr.alloc (.cells t.cells.toArray 35) := ⟨_, rfl⟩
      have HS : Hid (ws.heap[wr.heap.size]? = some (.cells t.cells.toArray 35 (0, 0)) ∧ ws.heap[w.heap.size]? = wr.heap[w.heap.size]? ∧ ws.heap[w.heap.size + 1]? = wr.heap[w.heap.size + 1]? ∧ Below w.heap.size w ws) := hide (by
        rw [hws]
        exact ⟨new_block _ _ _, Below.heap_alloc _ _ _ (Array.getElem?_eq_some_iff.1 HI.out.1).1, Below.heap_alloc _ _ _ (Array.getElem?_eq_some_iff.1 HI.out.2.1).1, bel_alloc HI.out.2.2 _⟩)
      have y2 : ws.cell? ⟨wr.heap.size, 2, none⟩ = some (.int .i64 (X : Int)) := by
        rw [← hX]
        exact tag_cell HS.out.1 2 _ rfl
      have h1 := HS.out.2.2.1.trans HI.out.2.1
      have y3 : ws.cell? ⟨w.heap.size + 1, X, none⟩ = some (.int .i64 (K : Int)) := by
        rw [hK]
        exact tag_cell h1 X _ (cntA_at _ hX6)
      have y4 : ws.frozen? ⟨w.heap.size + 1, X, none⟩ = false := cell_free h1 X
      have HNX : Hid ((ws.setCell ⟨w.heap.size + 1, X, none⟩ (.int .i64 ((K : Int) + 1))).heap[w.heap.size]? = some (.cells #[.int .i64 0, .int .i64 0, .int .i64 0, .int .i64 0, .int .i64 0, .int .i64 0] 47 (0, 0)) ∧ (ws.setCell ⟨w.heap.size + 1, X, none⟩ (.int .i64 ((K : Int) + 1))).heap[w.heap.size + 1]? = some (.cells (cntA ((ts.map Im.m).take (j + 1))) 47 (0, 0)) ∧ Below w.heap.size w (ws.setCell ⟨w.heap.size + 1, X, none⟩ (.int .i64 ((K : Int) + 1)))) := hide (by
        refine ⟨?_, ?_, HS.out.2.2.2.setCell (show w.heap.size ≤ w.heap.size + 1 by omega) _⟩
        · rw [set_other (show w.heap.size ≠ w.heap.size + 1 by omega)]
          exact HS.out.2.1.trans HI.out.1
        · have h := cell_set h1 X (.int .i64 ((K : Int) + 1))
          rw [hK, cntA_step _ t.m hX6 hX] at h
          rw [hK, List.take_add_one, hjn]
          exact h)
      clear ht hjn hto hX hK HI hok h1
      go_upto_region 4 with fail
      go_step
      go_step
      rename_i kk
      go_simp
      refine kk _ _ ?_
      clear kk
      refine wpList_load_mid rfl 35 _ rfl b (off + j * 15) rfl t.cells _ hrg Tryz.underlying35 rfl (by kernel_rfl) ?_
      go_step
      rename_i kk
      go_simp
      refine kk _ _ ?_
      clear kk
      refine wpList_store_row rfl 35 _ _ rfl wr.heap.size t.cells.toArray rfl rfl 35 _ (new_block _ _ _) (by kernel_rfl) rfl hone ?_
      rw [World.setRow_alloc_new]
      rw [← hws]
      clear hws hrg hone
      go_wp2_with fail
      go_roundg (N - (j + 1))
      case measure => omega
      case rel => exact ⟨j + 1, by omega, by first | rfl | (push_cast; rfl), HNX⟩
    · have hjN : j = N := by omega
      subst hjN
      have dlt : decide ((j : Int) < (j : Int)) = false := by simp
      obtain ⟨A, hA⟩ : ∃ A, A = cntA (ts.map Im.m) := ⟨_, rfl⟩
      have HA : Hid (wr.heap[w.heap.size + 1]? = some (.cells A 47 (0, 0))) := hide (by
        have h := HI.out.2.1
        rw [List.take_of_length_le (by rw [List.length_map]; have := HN.out; omega)] at h
        rw [hA]
        exact h)
      have hi6 : (Tryz.prog.info? 47).map (·.size) = some A.size := by rw [hA]; exact cntA_size _
      have ho6 : A.all (·.oneCell') = true := by rw [hA]; exact cntA_one _
      have hs6 : (6 : Nat) = A.size := by rw [hA]; rfl
      have HAE := hide hA
      clear hA
      go_upto_region 7 with fail
      go_step
      refine wpList_load_row rfl 47 _ rfl (w.heap.size + 1) rfl 47 A (0, 0) _ HA.out Tryz.underlying47 rfl hi6 ?_
      refine wpList_store_row rfl 47 _ _ rfl w.heap.size A rfl rfl 47 _ HI.out.1 hi6 hs6 ho6 ?_
      have h5 : (wr.setRow w.heap.size A).heap[w.heap.size]? = some (.cells A 47 (0, 0)) := setRow_heap _ _ _ _ _ _ HI.out.1
      have hbz : Below w.heap.size w (wr.setRow w.heap.size A) := below_row HI.out.2.2 (Nat.le_refl _) _
      generalize wr.setRow w.heap.size A = wz at h5 hbz
      go_wp2_with fail
      refine bodyPost_ret (results_cell_row rfl _ _ w.heap.size 47 A (0, 0) _ rfl h5 Tryz.underlying47 rfl hi6) rfl ?_
      exact ⟨by rw [HAE.out], hbz⟩

/-- Six numbers, of which the first ones are no more than sixteen. -/
def capA (f : Nat → Int) (j : Nat) : Array Value := #[.int .i64 (if 0 < j then min (f 0) 16 else f 0), .int .i64 (if 1 < j then min (f 1) 16 else f 1), .int .i64 (if 2 < j then min (f 2) 16 else f 2), .int .i64 (if 3 < j then min (f 3) 16 else f 3), .int .i64 (if 4 < j then min (f 4) 16 else f 4), .int .i64 (if 5 < j then min (f 5) 16 else f 5)]
theorem capA_at (f : Nat → Int) {j : Nat} (h : j < 6) : (capA f j)[j]? = some (.int .i64 (f j)) := by
  rcases (show j = 0 ∨ j = 1 ∨ j = 2 ∨ j = 3 ∨ j = 4 ∨ j = 5 by omega) with rfl | rfl | rfl | rfl | rfl | rfl <;> rfl
theorem capA_step (f : Nat → Int) {j : Nat} (h : j < 6) : (capA f j).setIfInBounds j (.int .i64 (min (f j) 16)) = capA f (j + 1) := by
  rcases (show j = 0 ∨ j = 1 ∨ j = 2 ∨ j = 3 ∨ j = 4 ∨ j = 5 by omega) with rfl | rfl | rfl | rfl | rfl | rfl <;> rfl
theorem capA_one (f : Nat → Int) (j : Nat) : (capA f j).all (·.oneCell') = true := by simp [capA, Value.oneCell']
theorem capA_size (f : Nat → Int) (j : Nat) : (Tryz.prog.info? 47).map (·.size) = some (capA f j).size := by
  have h : (Tryz.prog.info? 47).map (·.size) = some 6 := by kernel_rfl
  exact h
set_option maxRecDepth 100000 in
set_option maxHeartbeats 16000000 in
theorem pcapped_any (f : Nat → Int) (hf : ∀ i, -1000 ≤ f i ∧ f i ≤ 1000) (w : World) :
    Calls Tryz.prog 39 #[.agg (capA f 0)] w fun e w' => e = .returned (.agg (capA f 6)) ∧ Below w.heap.size w w' := by
  have HF := hide hf
  clear hf
  obtain ⟨A, hA⟩ : ∃ A, A = capA f 0 := ⟨_, rfl⟩
  obtain ⟨w1, hw1⟩ : ∃ w1, w1 = (w.alloc (.cells A 47)).alloc (.cells #[.int .i64 0, .int .i64 0, .int .i64 0, .int .i64 0, .int .i64 0, .int .i64 0] 47) := ⟨_, rfl⟩
  have H1 : Hid (w1.heap[w.heap.size]? = some (.cells (capA f 0) 47 (0, 0)) ∧ w1.heap[w.heap.size + 1]? = some (.cells #[.int .i64 0, .int .i64 0, .int .i64 0, .int .i64 0, .int .i64 0, .int .i64 0] 47 (0, 0)) ∧ Below w.heap.size w w1) := hide (by
    rw [hw1, ← hA]
    have e : (w.alloc (.cells A 47)).heap.size = w.heap.size + 1 := by simp
    refine ⟨?_, ?_, bel_alloc (bel_alloc (Below.refl _ _) _) _⟩
    · rw [Below.heap_alloc _ _ _ (by rw [e]; omega)]
      exact new_block _ _ _
    · have h := new_block (w.alloc (.cells A 47)) #[.int .i64 0, .int .i64 0, .int .i64 0, .int .i64 0, .int .i64 0, .int .i64 0] 47
      rw [e] at h
      exact h)
  rw [← hA]
  clear hA
  go_enter Tryz.func39, Tryz.ntmps39
  go_upto_region 1 with fail
  rw [← hw1]
  clear hw1
  go_wp2_with fail
  go_loopg [4] 6 (fun g v4 wr => ∃ j : Nat, j + g = 6 ∧ v4 = .int .i64 (j : Int) ∧ Hid (wr.heap[w.heap.size]? = some (.cells (capA f j) 47 (0, 0)) ∧ wr.heap[w.heap.size + 1]? = some (.cells #[.int .i64 0, .int .i64 0, .int .i64 0, .int .i64 0, .int .i64 0, .int .i64 0] 47 (0, 0)) ∧ Below w.heap.size w wr))
  case atStart => exact ⟨0, by omega, rfl, H1⟩
  case round =>
    clear H1
    obtain ⟨j, hj, rfl, HI⟩ := hrel
    by_cases hlt : j < 6
    · have dlt : decide ((j : Int) < 6) = true := decide_eq_true (by omega)
      obtain ⟨K, hK⟩ : ∃ K, K = f j := ⟨_, rfl⟩
      have hKb : -1000 ≤ K ∧ K ≤ 1000 := by rw [hK]; exact HF.out j
      have y1 : wr.cell? ⟨w.heap.size, j, none⟩ = some (.int .i64 K) := by
        rw [hK]
        exact tag_cell HI.out.1 j _ (capA_at f hlt)
      have y2 : wr.frozen? ⟨w.heap.size, j, none⟩ = false := cell_free HI.out.1 j
      have HNX : Hid (∀ M, M = min K 16 → (wr.setCell ⟨w.heap.size, j, none⟩ (.int .i64 M)).heap[w.heap.size]? = some (.cells (capA f (j + 1)) 47 (0, 0)) ∧ (wr.setCell ⟨w.heap.size, j, none⟩ (.int .i64 M)).heap[w.heap.size + 1]? = some (.cells #[.int .i64 0, .int .i64 0, .int .i64 0, .int .i64 0, .int .i64 0, .int .i64 0] 47 (0, 0)) ∧ Below w.heap.size w (wr.setCell ⟨w.heap.size, j, none⟩ (.int .i64 M))) := hide (by
        rintro M rfl
        refine ⟨?_, ?_, HI.out.2.2.setCell (Nat.le_refl _) _⟩
        · have h := cell_set HI.out.1 j (.int .i64 (min K 16))
          rw [hK, capA_step f hlt] at h
          rw [hK]
          exact h
        · rw [set_other (show w.heap.size + 1 ≠ w.heap.size by omega)]
          exact HI.out.2.1)
      clear hK HI
      have H2 := hide (HNX.out (min K 16) rfl)
      clear HNX
      go_wp2_with fail
      go_roundg (6 - (j + 1))
      case measure => omega
      case rel => exact ⟨j + 1, by omega, by first | rfl | (push_cast; rfl), H2⟩
    · have hj6 : j = 6 := by omega
      subst hj6
      go_upto_region 6 with fail
      go_step
      refine wpList_load_row rfl 47 _ rfl w.heap.size rfl 47 (capA f 6) (0, 0) _ HI.out.1 Tryz.underlying47 rfl (capA_size _ _) ?_
      refine wpList_store_row rfl 47 _ _ rfl (w.heap.size + 1) (capA f 6) rfl rfl 47 _ HI.out.2.1 (capA_size _ _) rfl (capA_one _ _) ?_
      have h5 : (wr.setRow (w.heap.size + 1) (capA f 6)).heap[w.heap.size + 1]? = some (.cells (capA f 6) 47 (0, 0)) := setRow_heap _ _ _ _ _ _ HI.out.2.1
      have hbz : Below w.heap.size w (wr.setRow (w.heap.size + 1) (capA f 6)) := below_row HI.out.2.2 (Nat.le_succ _) _
      generalize wr.setRow (w.heap.size + 1) (capA f 6) = wz at h5 hbz
      go_wp2_with fail
      refine bodyPost_ret (results_cell_row rfl _ _ (w.heap.size + 1) 47 (capA f 6) (0, 0) _ rfl h5 Tryz.underlying47 rfl (capA_size _ _)) rfl ?_
      exact ⟨rfl, hbz⟩
end Go.Proofs.YtmogplecohkjcaaGreatDoor
