/-
  The program's read, walked.
-/
import Derived.Test.YtmogplecohkjcaaGreatDoorEM
import Derived.Laws.Rows
namespace Msg15
open Go
open Pol8 hiding text right Right
theorem pre_list {s cur : L} {l : List L} {m : Ms} (e : textM m = s) (hp : Pre s l cur) (hl : l.length ≤ (listM m).length) : ∃ G, listM m = l ++ G ∧ cur = flds G := hp (listM m) e.symm hl
theorem pre_four {s cur x0 x1 x2 x3 : L} {v0 v1 v2 v3 : Int} {m : Ms} (h : MRight m) (e : textM m = s) (hp : Pre s [x0, x1, x2, x3] cur) (n0 : Nm x0 v0) (n1 : Nm x1 v1) (n2 : Nm x2 v2) (n3 : Nm x3 v3) : v0 = m.kind ∧ v1 = m.fr ∧ v2 = m.to ∧ v3 = m.ep := by
  obtain ⟨G, e1, _⟩ := pre_list e hp (by simp [listM])
  unfold listM at e1
  simp only [List.cons_append, List.cons.injEq] at e1
  obtain ⟨e0, e1, e2, e3, _⟩ := e1
  have h1 := h.kind
  have h2 := h.fr
  have h3 := h.to
  have h4 := h.ep
  rw [n0 _ (by omega) e0.symm, n1 _ (by omega) e1.symm, n2 _ (by omega) e2.symm, n3 _ (by omega) e3.symm]
  omega
theorem pre_body {s cur x0 x1 x2 x3 x4 : L} {m : Ms} (e : textM m = s) (hb : body m ≠ []) (hp : Pre s [x0, x1, x2, x3, x4] cur) : ∃ G, body m = x4 :: G := by
  have hl : 1 ≤ (body m).length := by
    have := List.length_pos_iff.2 hb
    omega
  obtain ⟨G, e1, _⟩ := pre_list e hp (by show 5 ≤ (body m).length + 1 + 1 + 1 + 1; omega)
  unfold listM at e1
  simp only [List.cons_append, List.cons.injEq] at e1
  exact ⟨G, by have := e1.2.2.2.2; simpa using this⟩
theorem pre_ids {s c5 cur x0 x1 x2 x3 x4 : L} {v4 : Int} {ids : List L} {m : Ms} (h : MRight m) (e : textM m = s) (hk : m.kind = 1) (hp5 : Pre s [x0, x1, x2, x3, x4] c5) (n4 : Nm x4 v4) (hp : Pre s ([x0, x1, x2, x3, x4] ++ ids) cur) (hn : ids.length = (min v4 64).toNat) : ids = m.ids := by
  have hb : body m = dec m.ids.length :: m.ids := by unfold body; rw [if_pos hk]
  obtain ⟨G, e1⟩ := pre_body e (by rw [hb]; simp) hp5
  rw [hb] at e1
  injection e1 with e1 e2
  have h64 := (riseI_len h.rids).1
  have hv := n4 _ (by omega) e1.symm
  have hl : ids.length = m.ids.length := by rw [hn, hv]; omega
  obtain ⟨G', e3, _⟩ := pre_list e hp (by rw [List.length_append]; show 5 + ids.length ≤ (body m).length + 1 + 1 + 1 + 1; rw [hb, List.length_cons]; omega)
  unfold listM at e3
  rw [hb] at e3
  simp only [List.cons_append, List.nil_append, List.cons.injEq] at e3
  have e4 := e3.2.2.2.2.2
  have hg : G' = [] := by
    have := congrArg List.length e4
    rw [List.length_append] at this
    exact List.eq_nil_of_length_eq_zero (by omega)
  rw [hg, List.append_nil] at e4
  exact e4.symm
theorem pre_posts {s c5 cur x0 x1 x2 x3 x4 : L} {v4 : Int} {ps : List (L × L)} {m : Ms} (h : MRight m) (e : textM m = s) (hk : m.kind = 2) (hp5 : Pre s [x0, x1, x2, x3, x4] c5) (n4 : Nm x4 v4) (hp : Pre s ([x0, x1, x2, x3, x4] ++ two ps) cur) (hn : ps.length = (min v4 64).toNat) : ps = m.posts := by
  have hb : body m = dec m.posts.length :: two m.posts := by unfold body; rw [if_neg (by omega), if_pos hk]
  obtain ⟨G, e1⟩ := pre_body e (by rw [hb]; simp) hp5
  rw [hb] at e1
  injection e1 with e1 e2
  have h64 := (riseI_len h.rposts).1
  rw [List.length_map] at h64
  have hv := n4 _ (by omega) e1.symm
  have hl : ps.length = m.posts.length := by rw [hn, hv]; omega
  obtain ⟨G', e3, _⟩ := pre_list e hp (by rw [List.length_append, two_len]; show 5 + 2 * ps.length ≤ (body m).length + 1 + 1 + 1 + 1; rw [hb, List.length_cons, two_len]; omega)
  unfold listM at e3
  rw [hb] at e3
  simp only [List.cons_append, List.nil_append, List.cons.injEq] at e3
  have e4 := e3.2.2.2.2.2
  have hg : G' = [] := by
    have := congrArg List.length e4
    rw [List.length_append, two_len, two_len] at this
    exact List.eq_nil_of_length_eq_zero (by omega)
  rw [hg, List.append_nil] at e4
  exact (two_inj _ _ e4).symm
theorem pre_pol {s c5 x0 x1 x2 x3 x4 : L} {m : Ms} (h : MRight m) (e : textM m = s) (hk : m.kind = 3) (hp5 : Pre s [x0, x1, x2, x3, x4] c5) : (readP x4).getD Pol.zero = m.pol := by
  have hb : body m = [Pol8.text m.pol] := by unfold body; rw [if_neg (by omega), if_neg (by omega), if_pos hk]
  obtain ⟨G, e1⟩ := pre_body e (by rw [hb]; simp) hp5
  rw [hb] at e1
  injection e1 with e1 e2
  rw [← e1, read_text ((right_iff _).1 (h.rpol hk))]
  rfl
theorem two_snoc (a : List (L × L)) (x y : L) : two (a ++ [(x, y)]) = two a ++ [x] ++ [y] := by
  induction a with
  | nil => rfl
  | cons p a ih =>
    show p.1 :: p.2 :: two (a ++ [(x, y)]) = p.1 :: p.2 :: (two a ++ [x] ++ [y])
    rw [ih]
end Msg15
namespace Go.Proofs.YtmogplecohkjcaaGreatDoor
open Go.RowKit
open Utf1
open Pol8 hiding text right Right
open Msg15

/-- What is told is in blocks from B on. -/
structure Frs (B : Nat) (w : World) (ids : List ByteArray) (vi vp v1 v2 v3 v4 v5 : Value) : Prop where
  own : w.ownsRow B 9 1 vi ids.length (strV ids)
  np : NbV B vp
  n5 : Nb5 B v1 v2 v3 v4 v5
theorem ownNil (w : World) (B : Nat) : w.ownsRow B 9 1 (.slice none 0 0) ([] : List ByteArray).length (strV []) := ⟨rfl, .inl ⟨rfl, rfl⟩⟩
theorem Frs.nil (B : Nat) (w : World) : Frs B w [] (.slice none 0 0) (.slice none 0 0) (.slice none 0 0) (.slice none 0 0) (.slice none 0 0) (.slice none 0 0) (.slice none 0 0) := ⟨ownNil w B, nbV_nil B, Nb5.nil B⟩
/-- A row of one's own stays where but one block, of another type, is changed. -/
theorem own_off {w w' : World} {B g : Nat} {e t : TypeId} {sz n : Nat} {v : Value} {xs : List Value} {A : Array Value} {fz : Nat × Nat} (h : w.ownsRow B e sz v n xs) (hg : w.heap[g]? = some (.cells A t fz)) (ht : t ≠ e) (hw : ∀ k, k ≠ g → w'.heap[k]? = w.heap[k]?) : w'.ownsRow B e sz v n xs := by
  obtain ⟨h1, h2 | ⟨k, cap, cur, hv, hb, hk, hr⟩⟩ := h
  · exact ⟨h1, .inl h2⟩
  · refine ⟨h1, .inr ⟨k, cap, cur, hv, hb, ?_, hr⟩⟩
    rw [hw k (fun ek => by
      subst ek
      rw [hg] at hk
      injection hk with hk
      injection hk with _ hk
      exact ht hk)]
    exact hk
theorem own_nb {w : World} {B : Nat} {e : TypeId} {sz n : Nat} {v : Value} {xs : List Value} (h : w.ownsRow B e sz v n xs) : NbV B v := fun b off n c ev => by
  obtain ⟨h1, h2 | ⟨k, cap, cur, hv, hb, hk, hr⟩⟩ := h
  · rw [h2.1] at ev
    cases ev
  · rw [hv] at ev
    injection ev with ev
    injection ev with ev
    injection ev with ev
    omega
/-- What is read: a message, the one of which the text is, if there is one. -/
def ReadQ (B : Nat) (w' : World) (s : L) (e : Ending) : Prop := ∃ (m : Ms) (vi vp v1 v2 v3 v4 v5 : Value) (ids : List ByteArray) (ts : List (ByteArray × ByteArray)) (l1 l2 l3 l4 l5 : List ByteArray), e = .returned (mval m.kind m.fr m.to m.ep vi vp m.pol v1 v2 v3 v4 v5) ∧ MV w' m vi vp v1 v2 v3 v4 v5 ids ts l1 l2 l3 l4 l5 ∧ (∀ m', MRight m' → textM m' = s → m = m') ∧ Frs B w' ids vi vp v1 v2 v3 v4 v5
theorem noS_msg (k f t ep x6 x12 x13 x14 : Int) (pi pp p1 p2 p3 p4 p5 : Option Addr) (ni np n1 n2 n3 n4 n5 ci cp c1 c2 c3 c4 c5 : Nat) : noS #[.int .i64 k, .int .i64 f, .int .i64 t, .int .i64 ep, .slice pi ni ci, .slice pp np cp, .int .i64 x6, .slice p1 n1 c1, .slice p2 n2 c2, .slice p3 n3 c3, .slice p4 n4 c4, .slice p5 n5 c5, .int .i64 x12, .int .i64 x13, .int .i64 x14] := by
  intro j y h
  have hm := Array.mem_of_getElem? h
  simp at hm

set_option maxRecDepth 100000 in
set_option maxHeartbeats 64000000 in
theorem eread_any (s : ByteArray) (hs : s.size ≤ 99999) (w : World) (hg : Glob w) (hge : GlobE w) :
    Calls Tryz.prog 62 #[.string s] w fun e w' => ReadQ w.heap.size w' (bl s) e ∧ Below w.heap.size w w' := by
  obtain ⟨i0, hi, hz0, hz1, hz2⟩ := info_parts infoStrM4
  obtain ⟨j0, hj, hjz0, hjz1, hjz2⟩ := info_parts einfoPost
  have HG := hide hg
  have HGE := hide hge
  clear hg hge
  obtain ⟨w1, hw1⟩ : ∃ w1, w1 = ((w.alloc (.cells zmsg 35)).alloc (.cells #[.string s] 104)).alloc (.cells zmsg 35) := ⟨_, rfl⟩
  have H1 : Hid (RD w zmsg s w1) := hide (by
    rw [hw1]
    refine ⟨?_, ?_, ?_, bel_alloc (bel_alloc (bel_alloc (Below.refl _ _) _) _) _⟩
    · rw [Below.heap_alloc _ _ _ (by simp; omega), Below.heap_alloc _ _ _ (by simp)]
      exact new_block _ _ _
    · unfold RdB
      rw [Below.heap_alloc _ _ _ (by simp)]
      exact heap_alloc2_new _ _ _
    · have h := heap_alloc_new ((w.alloc (.cells zmsg 35)).alloc (.cells #[.string s] 104)) (.cells zmsg 35)
      have e : ((w.alloc (.cells zmsg 35)).alloc (.cells #[.string s] 104)).heap.size = w.heap.size + 2 := by simp
      rw [e] at h
      exact h)
  have P0 : Hid (Pre (bl s) [] (bl s)) := hide (Pre.start _)
  have HS : Hid (s.size ≤ 99999) := hide hs
  go_enter Tryz.func62, Tryz.ntmps62
  go_upto_region 3 with fail
  rw [← hw1]
  clear hw1
  go_wp2_with fail
  refine (rd_number H1.out (by omega) HG.out HGE.out).mono ?_
  rintro e w2 ⟨k, t0, s1, rfl, hq, hrd⟩
  have H2 := hide hrd
  have N0 := hide hq.1
  have P1 : Hid (Pre (bl s) [bl t0] (bl s1)) := hide (P0.out.step hq.2.1)
  have Z1 : Hid (s1.size ≤ 99999) := hide (by have := HS.out; have := hq.2.2.2; omega)
  clear hq hrd H1 P0
  go_wp2_with fail
  refine (rd_number H2.out (by have := Z1.out; omega) HG.out HGE.out).mono ?_
  rintro e w3 ⟨f, t1, s2, rfl, hq, hrd⟩
  have H3 := hide hrd
  have N1 := hide hq.1
  have P2 : Hid (Pre (bl s) [bl t0, bl t1] (bl s2)) := hide (P1.out.step hq.2.1)
  have Z2 : Hid (s2.size ≤ 99999) := hide (by have := Z1.out; have := hq.2.2.2; omega)
  clear hq hrd H2 P1
  go_wp2_with fail
  refine (rd_number H3.out (by have := Z2.out; omega) HG.out HGE.out).mono ?_
  rintro e w4 ⟨t, t2, s3, rfl, hq, hrd⟩
  have H4 := hide hrd
  have N2 := hide hq.1
  have P3 : Hid (Pre (bl s) [bl t0, bl t1, bl t2] (bl s3)) := hide (P2.out.step hq.2.1)
  have Z3 : Hid (s3.size ≤ 99999) := hide (by have := Z2.out; have := hq.2.2.2; omega)
  clear hq hrd H3 P2
  go_wp2_with fail
  refine (rd_number H4.out (by have := Z3.out; omega) HG.out HGE.out).mono ?_
  rintro e w5 ⟨ep, t3, s4, rfl, hq, hrd⟩
  have H5 := hide hrd
  have N3 := hide hq.1
  have P4 : Hid (Pre (bl s) [bl t0, bl t1, bl t2, bl t3] (bl s4)) := hide (P3.out.step hq.2.1)
  have Z4 : Hid (s4.size ≤ 99999) := hide (by have := Z3.out; have := hq.2.2.2; omega)
  clear hq hrd H4 P3
  have y0 := tag_cell H5.out.b2 0 _ rfl
  have y1 := tag_cell H5.out.b2 1 _ rfl
  have y2 := tag_cell H5.out.b2 2 _ rfl
  have y3 := tag_cell H5.out.b2 3 _ rfl
  have g0 := etag_free H5.out.b2 0
  have g1 := etag_free H5.out.b2 1
  have g2 := etag_free H5.out.b2 2
  have g3 := etag_free H5.out.b2 3
  obtain ⟨w6, hw6⟩ : ∃ w6, w6 = (((w5.setCell ⟨w.heap.size + 2, 0, none⟩ (.int .i64 k)).setCell ⟨w.heap.size + 2, 1, none⟩ (.int .i64 f)).setCell ⟨w.heap.size + 2, 2, none⟩ (.int .i64 t)).setCell ⟨w.heap.size + 2, 3, none⟩ (.int .i64 ep) := ⟨_, rfl⟩
  have H6 : Hid (RD w #[.int .i64 k, .int .i64 f, .int .i64 t, .int .i64 ep, .slice none 0 0, .slice none 0 0, .int .i64 0, .slice none 0 0, .slice none 0 0, .slice none 0 0, .slice none 0 0, .slice none 0 0, .int .i64 0, .int .i64 0, .int .i64 0] s4 w6) := hide (by
    rw [hw6]
    exact (((H5.out.set 0 _).set 1 _).set 2 _).set 3 _)
  have H4 : Hid (∀ m', MRight m' → textM m' = bl s → k = m'.kind ∧ f = m'.fr ∧ t = m'.to ∧ ep = m'.ep) := hide (fun m' h e => pre_four h e P4.out N0.out N1.out N2.out N3.out)
  clear N0 N1 N2 N3
  go_upto_region 4 with fail
  rw [← hw6]
  clear hw6 y0 y1 y2 y3 g0 g1 g2 g3 H5
  have y0 := tag_cell H6.out.b2 0 _ rfl
  by_cases k1 : k = 1
  · subst k1
    go_wp2_with fail
    refine (rd_many H6.out (by have := Z4.out; omega) HG.out HGE.out).mono ?_
    rintro e w7 ⟨z, t4, s5, rfl, hq, hrd⟩
    have H7 := hide hrd
    have P5 : Hid (Pre (bl s) [bl t0, bl t1, bl t2, bl t3, bl t4] (bl s5)) := hide (P4.out.step hq.2.1)
    have Z5 : Hid (s5.size ≤ 99999) := hide (by have := Z4.out; have := hq.2.2.2; omega)
    have NZ := hide hq.1
    have hz64 : z ≤ 64 := by
      obtain ⟨v, _, h⟩ := hq.1
      omega
    clear hq hrd H6 y0
    go_wp2_with fail
    go_loopg [22] 64 (fun g v wr => ∃ (i n cp : Nat) (q : Option Addr) (cur : ByteArray) (ids : List ByteArray), i + g = 64 ∧ n = i ∧ v = .int .i64 (i : Int) ∧ (i = 0 ∨ (i : Int) ≤ z) ∧ Hid (cur.size ≤ 99999) ∧ Hid (RD w #[.int .i64 1, .int .i64 f, .int .i64 t, .int .i64 ep, .slice q n cp, .slice none 0 0, .int .i64 0, .slice none 0 0, .slice none 0 0, .slice none 0 0, .slice none 0 0, .slice none 0 0, .int .i64 0, .int .i64 0, .int .i64 0] cur wr ∧ wr.ownsRow w.heap.size 9 1 (.slice q n cp) n (strV ids) ∧ ids.length = i ∧ Pre (bl s) ([bl t0, bl t1, bl t2, bl t3, bl t4] ++ ids.map bl) (bl cur)))
    case atStart => exact ⟨0, 0, 0, none, s5, [], by omega, rfl, rfl, .inl rfl, Z5, hide ⟨H7.out, ⟨rfl, .inl ⟨rfl, rfl⟩⟩, rfl, P5.out⟩⟩
    case round =>
      obtain ⟨i, n, cp, q, cur, ids, hig, hni, rfl, hiz, HZR, HR⟩ := hrel
      by_cases hlt : (i : Int) < z
      · have dlt : decide ((i : Int) < z) = true := decide_eq_true hlt
        have hn64 : n + 1 ≤ 100 := by omega
        have hi100 : i ≤ 100 := by omega
        have HNI := hide hni
        have HI2 : Hid ((i : Int) + 1 ≤ z ∧ i + gk = 64) := hide (by omega)
        clear hni hlt hiz hig
        go_wp2_with fail
        refine wp_region_until (m := 6) (S := (fun wx => wx.cell? ⟨w.heap.size + 2, 4, none⟩ = some (.slice q n cp))) (by kernel_rfl) (tag_cell (HR.out.1.keep ((Below.refl _ _).drew)).b2 4 _ rfl) (fun hHeld => ?_)
        refine wpU_at (i := 0) (v := ?va0) (a1 := ?xa0) rfl (by kernel_rfl) (by kernel_rfl) (by kernel_rfl) (by kernel_rfl) (fun _ _ _ h => h) (Or.inl ⟨by rfl, ?ya0⟩) (by assumption) ?ha0 ?za0
        case ya0 => (intro w hSw; (try dsimp only at hSw); go_simp; try (with_reducible rfl))
        case ha0 => (go_simp; exact rfl)
        case za0 =>
        refine wpU_at (i := 1) (v := ?va1) (a1 := ?xa1) rfl (by kernel_rfl) (by kernel_rfl) (by kernel_rfl) (by kernel_rfl) (fun _ _ _ h => h) (Or.inl ⟨by rfl, ?ya1⟩) (by assumption) ?ha1 ?za1
        case ya1 => (intro w hSw; (try dsimp only at hSw); go_simp; try (with_reducible rfl))
        case ha1 => (go_simp; exact rfl)
        case za1 =>
        refine wpU_ready (rs := [2]) (by kernel_rfl) (by simp) ?_
        refine AllU.cons (by decide) rfl (fun K hK => ?_) AllU.nil
        go_simp
        refine (rd_text (HR.out.1.keep ((Below.refl _ _).drew)) (by have := HZR.out; omega) HG.out HGE.out).mono ?_
        rintro e w8 ⟨tx, rx, rfl, hq, hrd, hgr⟩
        have HQ := hide hq
        have H8 := hide hrd
        have HO8 : Hid (w8.ownsRow w.heap.size 9 1 (.slice q n cp) n (strV ids)) := hide (own_rd (HR.out.1.keep ((Below.refl _ _).drew)) HR.out.2.1.drew (by decide) hgr)
        clear hq hrd hgr
        try go_wp2_with fail
        refine hK.out _ _ (by first | exact tag_cell H9.out.b2 4 _ rfl | exact tag_cell H8A.out.b2 4 _ rfl | exact tag_cell H8.out.b2 4 _ rfl) (fun hHeld2 => ?_)
        clear hK K hHeld
        have hHeld := hHeld2
        clear hHeld2
        refine wpU_ready (rs := [3]) (by kernel_rfl) (by simp) ?_
        refine AllU.cons (by decide) rfl (fun K hK => ?_) AllU.nil
        go_simp
        have H8A : Hid (RD w #[.int .i64 1, .int .i64 f, .int .i64 t, .int .i64 ep, .slice q n cp, .slice none 0 0, .int .i64 0, .slice none 0 0, .slice none 0 0, .slice none 0 0, .slice none 0 0, .slice none 0 0, .int .i64 0, .int .i64 0, .int .i64 0] rx (w8.alloc (.cells #[.string tx] 9))) := hide (H8.out.keep (bel_alloc (Below.refl _ _) _))
        try go_wp2_with fail
        try go_wp2_with fail
        refine hK.out _ _ (by first | exact tag_cell H9.out.b2 4 _ rfl | exact tag_cell H8A.out.b2 4 _ rfl | exact tag_cell H8.out.b2 4 _ rfl) (fun hHeld2 => ?_)
        clear hK K hHeld
        have hHeld := hHeld2
        clear hHeld2
        refine wpU_ready (rs := [4]) (by kernel_rfl) (by simp) ?_
        refine AllU.cons (by decide) rfl (fun K hK => ?_) AllU.nil
        refine estep_mine rfl (.tmp 25) (.tmp 27) 30 rfl w.heap.size 9 i0 _ 16 Tryz.underlying30 hi hz0 hz1 hz2 rfl q n cp (strV ids) rfl (HO8.out.alloc _) ⟨w8.heap.size, 0, none⟩ 1 (.string tx) rfl (tag_cell (new_block _ _ _) 0 _ rfl) (by simp [Value.oneCell']) (by unfold maxLen; omega) (by omega) (by have := H8A.out.bel.size; exact this) ?_
        intro p9 c9 w9 k1 k2 k3
        have H9 : Hid (RD w #[.int .i64 1, .int .i64 f, .int .i64 t, .int .i64 ep, .slice q n cp, .slice none 0 0, .int .i64 0, .slice none 0 0, .slice none 0 0, .slice none 0 0, .slice none 0 0, .slice none 0 0, .int .i64 0, .int .i64 0, .int .i64 0] rx w9) := hide (H8A.out.grown (HO8.out.alloc _) (by decide) (by decide) k2)
        have HO9 := hide k1
        clear k1 k2 k3
        try go_simp
        refine hK.out _ _ (by first | exact tag_cell H9.out.b2 4 _ rfl | exact tag_cell H8A.out.b2 4 _ rfl | exact tag_cell H8.out.b2 4 _ rfl) (fun hHeld2 => ?_)
        clear hK K hHeld
        have hHeld := hHeld2
        clear hHeld2
        refine wpU_at (i := 5) (v := ?va5) (a1 := ?xa5) rfl (by kernel_rfl) (by kernel_rfl) (by kernel_rfl) (by kernel_rfl) (fun _ _ _ h => h) (Or.inl ⟨by rfl, ?ya5⟩) (by assumption) ?ha5 ?za5
        case ya5 => (intro w hSw; (try dsimp only at hSw); go_simp; try (with_reducible rfl))
        case ha5 => (go_simp; exact rfl)
        case za5 =>
        refine wpU_ready (rs := [6]) (by kernel_rfl) (by simp) ?_
        refine AllU.last rfl (fun K hK => ?_)
        have z4 := tag_cell H9.out.b2 4 _ rfl
        have g4 := etag_free H9.out.b2 4
        go_simp
        try go_wp2_with fail
        refine hK.out _ _ ?_
        clear hK K
        refine wpAny_done (by kernel_rfl) ?_ _
        go_wp2_with fail
        have H10 : Hid (RD w #[.int .i64 1, .int .i64 f, .int .i64 t, .int .i64 ep, .slice p9 (n + 1) c9, .slice none 0 0, .int .i64 0, .slice none 0 0, .slice none 0 0, .slice none 0 0, .slice none 0 0, .slice none 0 0, .int .i64 0, .int .i64 0, .int .i64 0] rx (w9.setCell ⟨w.heap.size + 2, 4, none⟩ (.slice p9 (n + 1) c9)) ∧ (w9.setCell ⟨w.heap.size + 2, 4, none⟩ (.slice p9 (n + 1) c9)).ownsRow w.heap.size 9 1 (.slice p9 (n + 1) c9) (n + 1) (strV (ids ++ [tx])) ∧ (ids ++ [tx]).length = i + 1 ∧ Pre (bl s) ([bl t0, bl t1, bl t2, bl t3, bl t4] ++ (ids ++ [tx]).map bl) (bl rx)) := hide (by
          refine ⟨H9.out.set 4 _, ?_, by rw [List.length_append, HR.out.2.2.1]; rfl, ?_⟩
          · rw [strV_app]
            exact eown_set HO9.out H9.out.b2 (by decide) 4 _
          · rw [List.map_append, ← List.append_assoc]
            exact HR.out.2.2.2.step HQ.out.1)
        have HZR2 : Hid (rx.size ≤ 99999) := hide (by have := HZR.out; have := HQ.out.2.2; omega)
        go_roundg (gk - 1)
        case measure => have := HI2.out; omega
        case rel => exact ⟨i + 1, n + 1, c9, p9, rx, ids ++ [tx], by have := HI2.out; omega, by have := HNI.out; omega, by first | rfl | simp, .inr (by have := HI2.out; omega), HZR2, H10⟩
      · have dlt : decide ((i : Int) < z) = false := decide_eq_false hlt
        have HM : Hid (∀ m', MRight m' → textM m' = bl s → (⟨1, f, t, ep, ids.map bl, [], Pol.zero⟩ : Ms) = m') := hide (fun m' h e => by
          obtain ⟨a1, a2, a3, a4⟩ := H4.out m' h e
          obtain ⟨v, n4, hv⟩ := NZ.out
          have hn : (ids.map bl).length = (min v 64).toNat := by rw [List.length_map, HR.out.2.2.1, ← hv]; omega
          have hid := pre_ids h e a1.symm P5.out n4 HR.out.2.2.2 hn
          exact Ms.ext' a1 a2 a3 a4 hid (h.posts (by omega)).symm (h.pol (by omega)).symm)
        have HRD : Hid (RD w #[.int .i64 1, .int .i64 f, .int .i64 t, .int .i64 ep, .slice q n cp, .slice none 0 0, .int .i64 0, .slice none 0 0, .slice none 0 0, .slice none 0 0, .slice none 0 0, .slice none 0 0, .int .i64 0, .int .i64 0, .int .i64 0] cur wr) := hide HR.out.1
        have HOW : Hid (wr.ownsRow w.heap.size 9 1 (.slice q n cp) ids.length (strV ids)) := hide (by
          have hl : ids.length = n := by rw [HR.out.2.2.1, hni]
          rw [hl]
          exact HR.out.2.1)
        have HMV : Hid (MV wr ⟨1, f, t, ep, ids.map bl, [], Pol.zero⟩ (.slice q n cp) (.slice none 0 0) (.slice none 0 0) (.slice none 0 0) (.slice none 0 0) (.slice none 0 0) (.slice none 0 0) ids [] [] [] [] [] []) := hide (by
          have hb := MV.bare (w := wr) 1 f t ep (HG.out.below HR.out.1.bel)
          have hl : ids.length = n := by rw [HR.out.2.2.1, hni]
          exact ⟨own_arg (B := w.heap.size) (by rw [hl]; exact HR.out.2.1), hb.hp, hb.hv, rfl, hb.ep, hb.hf, by omega, hb.lp⟩)
        clear HR hlt hiz hni hig
        go_upto_region 18 with fail
        go_step
        refine wpList_load_row rfl 35 _ rfl (w.heap.size + 2) rfl 35 #[.int .i64 1, .int .i64 f, .int .i64 t, .int .i64 ep, .slice q n cp, .slice none 0 0, .int .i64 0, .slice none 0 0, .slice none 0 0, .slice none 0 0, .slice none 0 0, .slice none 0 0, .int .i64 0, .int .i64 0, .int .i64 0] (0, 0) _ HRD.out.b2 Tryz.underlying35 rfl (by kernel_rfl) ?_
        refine wpList_store_row rfl 35 _ _ rfl w.heap.size #[.int .i64 1, .int .i64 f, .int .i64 t, .int .i64 ep, .slice q n cp, .slice none 0 0, .int .i64 0, .slice none 0 0, .slice none 0 0, .slice none 0 0, .slice none 0 0, .slice none 0 0, .int .i64 0, .int .i64 0, .int .i64 0] rfl rfl 35 _ HRD.out.b0 (by kernel_rfl) rfl (by simp [Value.oneCell']) ?_
        obtain ⟨wz, hwz⟩ : ∃ wz, wz = wr.setRow w.heap.size #[.int .i64 1, .int .i64 f, .int .i64 t, .int .i64 ep, .slice q n cp, .slice none 0 0, .int .i64 0, .slice none 0 0, .slice none 0 0, .slice none 0 0, .slice none 0 0, .slice none 0 0, .int .i64 0, .int .i64 0, .int .i64 0] := ⟨_, rfl⟩
        have KZ : Hid (wz.heap[w.heap.size]? = some (.cells #[.int .i64 1, .int .i64 f, .int .i64 t, .int .i64 ep, .slice q n cp, .slice none 0 0, .int .i64 0, .slice none 0 0, .slice none 0 0, .slice none 0 0, .slice none 0 0, .slice none 0 0, .int .i64 0, .int .i64 0, .int .i64 0] 35 (0, 0))) := hide (by rw [hwz]; exact setRow_heap _ _ _ _ _ _ HRD.out.b0)
        have BZ : Hid (Below w.heap.size w wz) := hide (by rw [hwz]; exact below_row HRD.out.bel (Nat.le_refl _) _)
        have HFR : Hid (Frs w.heap.size wz ids (.slice q n cp) (.slice none 0 0) (.slice none 0 0) (.slice none 0 0) (.slice none 0 0) (.slice none 0 0) (.slice none 0 0)) := hide ⟨own_off HOW.out HRD.out.b0 (by decide) (fun j hj => by rw [hwz]; exact setRow_other _ _ _ _ hj), nbV_nil _, Nb5.nil _⟩
        have MZ : Hid (MV wz ⟨1, f, t, ep, ids.map bl, [], Pol.zero⟩ (.slice q n cp) (.slice none 0 0) (.slice none 0 0) (.slice none 0 0) (.slice none 0 0) (.slice none 0 0) (.slice none 0 0) ids [] [] [] [] [] []) := hide (HMV.out.at' HRD.out.b0 noS_zmsg (fun j hj => by rw [hwz]; exact setRow_other _ _ _ _ hj) (HG.out.below BZ.out))
        rw [← hwz]
        clear hwz
        go_wp2_with fail
        refine bodyPost_ret (results_cell_row rfl _ _ w.heap.size 35 #[.int .i64 1, .int .i64 f, .int .i64 t, .int .i64 ep, .slice q n cp, .slice none 0 0, .int .i64 0, .slice none 0 0, .slice none 0 0, .slice none 0 0, .slice none 0 0, .slice none 0 0, .int .i64 0, .int .i64 0, .int .i64 0] (0, 0) _ rfl KZ.out Tryz.underlying35 rfl (by kernel_rfl)) rfl ?_
        exact ⟨⟨⟨1, f, t, ep, ids.map bl, [], Pol.zero⟩, _, _, _, _, _, _, _, ids, [], [], [], [], [], [], rfl, MZ.out, HM.out, HFR.out⟩, BZ.out⟩
  have e1 : (k == 1) = false := by simp [k1]
  by_cases k2 : k = 2
  · subst k2
    clear k1
    go_wp2_with fail
    refine (rd_many H6.out (by have := Z4.out; omega) HG.out HGE.out).mono ?_
    rintro e w7 ⟨z, t4, s5, rfl, hq, hrd⟩
    have H7 := hide hrd
    have P5 : Hid (Pre (bl s) [bl t0, bl t1, bl t2, bl t3, bl t4] (bl s5)) := hide (P4.out.step hq.2.1)
    have Z5 : Hid (s5.size ≤ 99999) := hide (by have := Z4.out; have := hq.2.2.2; omega)
    have NZ := hide hq.1
    have hz64 : z ≤ 64 := by
      obtain ⟨v, _, h⟩ := hq.1
      omega
    clear hq hrd H6 y0
    go_wp2_with fail
    go_loopg [34] 64 (fun g v wr => ∃ (i n cp : Nat) (q : Option Addr) (cur : ByteArray) (ts : List (ByteArray × ByteArray)), i + g = 64 ∧ n = i ∧ v = .int .i64 (i : Int) ∧ (i = 0 ∨ (i : Int) ≤ z) ∧ Hid (cur.size ≤ 99999) ∧ Hid (RD w #[.int .i64 2, .int .i64 f, .int .i64 t, .int .i64 ep, .slice none 0 0, .slice q n cp, .int .i64 0, .slice none 0 0, .slice none 0 0, .slice none 0 0, .slice none 0 0, .slice none 0 0, .int .i64 0, .int .i64 0, .int .i64 0] cur wr ∧ wr.ownsRow w.heap.size 57 2 (.slice q n cp) n (postV ts) ∧ ts.length = i ∧ Pre (bl s) ([bl t0, bl t1, bl t2, bl t3, bl t4] ++ two (ts.map (fun x => (bl x.1, bl x.2)))) (bl cur)))
    case atStart => exact ⟨0, 0, 0, none, s5, [], by omega, rfl, rfl, .inl rfl, Z5, hide ⟨H7.out, ⟨rfl, .inl ⟨rfl, rfl⟩⟩, rfl, P5.out⟩⟩
    case round =>
      obtain ⟨i, n, cp, q, cur, ts, hig, hni, rfl, hiz, HZR, HR⟩ := hrel
      by_cases hlt : (i : Int) < z
      · have dlt : decide ((i : Int) < z) = true := decide_eq_true hlt
        have hn64 : n + 1 ≤ 100 := by omega
        have hi100 : i ≤ 100 := by omega
        have HNI := hide hni
        have HI2 : Hid ((i : Int) + 1 ≤ z ∧ i + gk = 64) := hide (by omega)
        clear hni hlt hiz hig
        go_wp2_with fail
        refine (rd_text HR.out.1 (by have := HZR.out; omega) HG.out HGE.out).mono ?_
        rintro e w8 ⟨tx, rx, rfl, hq, hrd, hgr⟩
        have HQ := hide hq
        have H8 := hide hrd
        have HO8 : Hid (w8.ownsRow w.heap.size 57 2 (.slice q n cp) n (postV ts)) := hide (own_rd HR.out.1 HR.out.2.1 (by decide) hgr)
        have HZ8 : Hid (rx.size ≤ 99999) := hide (by have := HZR.out; have := hq.2.2; omega)
        clear hq hrd hgr
        go_wp2_with fail
        refine (rd_text H8.out (by have := HZ8.out; omega) HG.out HGE.out).mono ?_
        rintro e w9 ⟨ty, ry, rfl, hq, hrd, hgr⟩
        have HQ9 := hide hq
        have H9 := hide hrd
        have HO9 : Hid (w9.ownsRow w.heap.size 57 2 (.slice q n cp) n (postV ts)) := hide (own_rd H8.out HO8.out (by decide) hgr)
        have HZ9 : Hid (ry.size ≤ 99999) := hide (by have := HZ8.out; have := hq.2.2; omega)
        clear hq hrd hgr
        have y5 := tag_cell H9.out.b2 5 _ rfl
        have H9A : Hid (RD w #[.int .i64 2, .int .i64 f, .int .i64 t, .int .i64 ep, .slice none 0 0, .slice q n cp, .int .i64 0, .slice none 0 0, .slice none 0 0, .slice none 0 0, .slice none 0 0, .slice none 0 0, .int .i64 0, .int .i64 0, .int .i64 0] ry (w9.alloc (.cells #[.string tx, .string ty] 57))) := hide (H9.out.keep (bel_alloc (Below.refl _ _) _))
        have HOA : Hid ((w9.alloc (.cells #[.string tx, .string ty] 57)).ownsRow w.heap.size 57 2 (.slice q n cp) n (postV ts)) := hide (HO9.out.alloc _)
        have hnew : ∀ (j : Nat) (u : Value), [Value.string tx, Value.string ty][j]? = some u → (w9.alloc (.cells #[.string tx, .string ty] 57)).cell? ((⟨w9.heap.size, 0, none⟩ : Addr).add j) = some u := by
          intro j u hu
          have hb := new_block w9 #[.string tx, .string ty] 57
          rw [add_plain, Nat.zero_add]
          exact tag_cell hb j u (by rw [← hu]; simp)
        go_wp2_with (at_builtin; refine wpList_append_own _ rfl _ _ 31 rfl w.heap.size 57 j0 _ 2 32 Tryz.underlying31 hj hjz0 hjz1 hjz2 rfl (by decide) (.slice q n cp) n (postV ts) rfl HOA.out ⟨w9.heap.size, 0, none⟩ 1 1 [.string tx, .string ty] rfl rfl hnew (by simp [Value.oneCell']) (by unfold maxLen; omega) (by omega) (by have := H9A.out.bel.size; exact this) ?_)
        intro u' w10 hown hg10 _
        obtain ⟨p9, c9, rfl, -⟩ := own_shape hown
        have H10 : Hid (RD w #[.int .i64 2, .int .i64 f, .int .i64 t, .int .i64 ep, .slice none 0 0, .slice q n cp, .int .i64 0, .slice none 0 0, .slice none 0 0, .slice none 0 0, .slice none 0 0, .slice none 0 0, .int .i64 0, .int .i64 0, .int .i64 0] ry w10) := hide (H9A.out.grown HOA.out (by decide) (by decide) hg10)
        have HO10 := hide hown
        have z5 := tag_cell H10.out.b2 5 _ rfl
        have g5 := etag_free H10.out.b2 5
        clear hown hg10 y5 hnew
        go_wp2_with fail
        have H11 : Hid (RD w #[.int .i64 2, .int .i64 f, .int .i64 t, .int .i64 ep, .slice none 0 0, .slice p9 (n + 1) c9, .int .i64 0, .slice none 0 0, .slice none 0 0, .slice none 0 0, .slice none 0 0, .slice none 0 0, .int .i64 0, .int .i64 0, .int .i64 0] ry (w10.setCell ⟨w.heap.size + 2, 5, none⟩ (.slice p9 (n + 1) c9)) ∧ (w10.setCell ⟨w.heap.size + 2, 5, none⟩ (.slice p9 (n + 1) c9)).ownsRow w.heap.size 57 2 (.slice p9 (n + 1) c9) (n + 1) (postV (ts ++ [(tx, ty)])) ∧ (ts ++ [(tx, ty)]).length = i + 1 ∧ Pre (bl s) ([bl t0, bl t1, bl t2, bl t3, bl t4] ++ two ((ts ++ [(tx, ty)]).map (fun x => (bl x.1, bl x.2)))) (bl ry)) := hide (by
          refine ⟨H10.out.set 5 _, ?_, by rw [List.length_append, HR.out.2.2.1]; rfl, ?_⟩
          · rw [postV_app]
            exact eown_set HO10.out H10.out.b2 (by decide) 5 _
          · rw [List.map_append]
            show Pre _ (_ ++ two (_ ++ [(bl tx, bl ty)])) _
            rw [two_snoc, ← List.append_assoc, ← List.append_assoc]
            exact (HR.out.2.2.2.step HQ.out.1).step HQ9.out.1)
        go_roundg (gk - 1)
        case measure => have := HI2.out; omega
        case rel => exact ⟨i + 1, n + 1, c9, p9, ry, ts ++ [(tx, ty)], by have := HI2.out; omega, by have := HNI.out; omega, by first | rfl | simp, .inr (by have := HI2.out; omega), HZ9, H11⟩
      · have dlt : decide ((i : Int) < z) = false := decide_eq_false hlt
        have HM : Hid (∀ m', MRight m' → textM m' = bl s → (⟨2, f, t, ep, [], ts.map (fun x => (bl x.1, bl x.2)), Pol.zero⟩ : Ms) = m') := hide (fun m' h e => by
          obtain ⟨a1, a2, a3, a4⟩ := H4.out m' h e
          obtain ⟨v, n4, hv⟩ := NZ.out
          have hn : (ts.map (fun x => (bl x.1, bl x.2))).length = (min v 64).toNat := by rw [List.length_map, HR.out.2.2.1, ← hv]; omega
          have hid := pre_posts h e a1.symm P5.out n4 HR.out.2.2.2 hn
          exact Ms.ext' a1 a2 a3 a4 (h.ids (by omega)).symm hid (h.pol (by omega)).symm)
        have HRD : Hid (RD w #[.int .i64 2, .int .i64 f, .int .i64 t, .int .i64 ep, .slice none 0 0, .slice q n cp, .int .i64 0, .slice none 0 0, .slice none 0 0, .slice none 0 0, .slice none 0 0, .slice none 0 0, .int .i64 0, .int .i64 0, .int .i64 0] cur wr) := hide HR.out.1
        have HOW : Hid (NbV w.heap.size (.slice q n cp)) := hide (own_nb HR.out.2.1)
        have HMV : Hid (MV wr ⟨2, f, t, ep, [], ts.map (fun x => (bl x.1, bl x.2)), Pol.zero⟩ (.slice none 0 0) (.slice q n cp) (.slice none 0 0) (.slice none 0 0) (.slice none 0 0) (.slice none 0 0) (.slice none 0 0) [] ts [] [] [] [] []) := hide (by
          have hb := MV.bare (w := wr) 2 f t ep (HG.out.below HR.out.1.bel)
          have hl : ts.length = n := by rw [HR.out.2.2.1, hni]
          exact ⟨hb.hi, own_post (B := w.heap.size) (by rw [hl]; exact HR.out.2.1), hb.hv, hb.ei, rfl, hb.hf, hb.li, by omega⟩)
        clear HR hlt hiz hni hig
        go_upto_region 18 with fail
        go_step
        refine wpList_load_row rfl 35 _ rfl (w.heap.size + 2) rfl 35 #[.int .i64 2, .int .i64 f, .int .i64 t, .int .i64 ep, .slice none 0 0, .slice q n cp, .int .i64 0, .slice none 0 0, .slice none 0 0, .slice none 0 0, .slice none 0 0, .slice none 0 0, .int .i64 0, .int .i64 0, .int .i64 0] (0, 0) _ HRD.out.b2 Tryz.underlying35 rfl (by kernel_rfl) ?_
        refine wpList_store_row rfl 35 _ _ rfl w.heap.size #[.int .i64 2, .int .i64 f, .int .i64 t, .int .i64 ep, .slice none 0 0, .slice q n cp, .int .i64 0, .slice none 0 0, .slice none 0 0, .slice none 0 0, .slice none 0 0, .slice none 0 0, .int .i64 0, .int .i64 0, .int .i64 0] rfl rfl 35 _ HRD.out.b0 (by kernel_rfl) rfl (by simp [Value.oneCell']) ?_
        obtain ⟨wz, hwz⟩ : ∃ wz, wz = wr.setRow w.heap.size #[.int .i64 2, .int .i64 f, .int .i64 t, .int .i64 ep, .slice none 0 0, .slice q n cp, .int .i64 0, .slice none 0 0, .slice none 0 0, .slice none 0 0, .slice none 0 0, .slice none 0 0, .int .i64 0, .int .i64 0, .int .i64 0] := ⟨_, rfl⟩
        have KZ : Hid (wz.heap[w.heap.size]? = some (.cells #[.int .i64 2, .int .i64 f, .int .i64 t, .int .i64 ep, .slice none 0 0, .slice q n cp, .int .i64 0, .slice none 0 0, .slice none 0 0, .slice none 0 0, .slice none 0 0, .slice none 0 0, .int .i64 0, .int .i64 0, .int .i64 0] 35 (0, 0))) := hide (by rw [hwz]; exact setRow_heap _ _ _ _ _ _ HRD.out.b0)
        have BZ : Hid (Below w.heap.size w wz) := hide (by rw [hwz]; exact below_row HRD.out.bel (Nat.le_refl _) _)
        have HFR : Hid (Frs w.heap.size wz [] (.slice none 0 0) (.slice q n cp) (.slice none 0 0) (.slice none 0 0) (.slice none 0 0) (.slice none 0 0) (.slice none 0 0)) := hide ⟨ownNil _ _, HOW.out, Nb5.nil _⟩
        have MZ : Hid (MV wz ⟨2, f, t, ep, [], ts.map (fun x => (bl x.1, bl x.2)), Pol.zero⟩ (.slice none 0 0) (.slice q n cp) (.slice none 0 0) (.slice none 0 0) (.slice none 0 0) (.slice none 0 0) (.slice none 0 0) [] ts [] [] [] [] []) := hide (HMV.out.at' HRD.out.b0 noS_zmsg (fun j hj => by rw [hwz]; exact setRow_other _ _ _ _ hj) (HG.out.below BZ.out))
        rw [← hwz]
        clear hwz
        go_wp2_with fail
        refine bodyPost_ret (results_cell_row rfl _ _ w.heap.size 35 #[.int .i64 2, .int .i64 f, .int .i64 t, .int .i64 ep, .slice none 0 0, .slice q n cp, .int .i64 0, .slice none 0 0, .slice none 0 0, .slice none 0 0, .slice none 0 0, .slice none 0 0, .int .i64 0, .int .i64 0, .int .i64 0] (0, 0) _ rfl KZ.out Tryz.underlying35 rfl (by kernel_rfl)) rfl ?_
        exact ⟨⟨⟨2, f, t, ep, [], ts.map (fun x => (bl x.1, bl x.2)), Pol.zero⟩, _, _, _, _, _, _, _, [], ts, [], [], [], [], [], rfl, MZ.out, HM.out, HFR.out⟩, BZ.out⟩
  have e2 : (k == 2) = false := by simp [k2]
  by_cases k3 : k = 3
  · subst k3
    clear k1 k2
    go_wp2_with fail
    refine (rd_text H6.out (by have := Z4.out; omega) HG.out HGE.out).mono ?_
    rintro e w7 ⟨t4, s5, rfl, hq, hrd, -⟩
    have H7 := hide hrd
    have P5 : Hid (Pre (bl s) [bl t0, bl t1, bl t2, bl t3, bl t4] (bl s5)) := hide (P4.out.step hq.1)
    have Z5 : Hid (t4.size ≤ 99999) := hide (by have := Z4.out; have := hq.2.1; omega)
    clear hq hrd H6 y0
    have hfit := read_fits (bl t4) (by rw [bl_len]; exact Z5.out)
    have C8 := hide (pread_any t4 w7 Z5.out (HG.out.below H7.out.bel) (HGE.out.below H7.out.bel))
    obtain ⟨Q, hQ⟩ : ∃ Q, Q = (readP (bl t4)).getD Pol.zero := ⟨_, rfl⟩
    rw [← hQ] at C8 hfit
    have HQ := hide hQ
    have HF := hide hfit
    generalize (if (readP (bl t4)).isSome = true then (0 : Int) else 2) = E8 at C8
    clear hQ hfit
    go_wp2_with fail
    rename_i kk
    refine C8.out.mono ?_
    rintro e w8 ⟨⟨u1, u2, u3, u4, u5, l1, l2, l3, l4, l5, rfl, hv, hn5⟩, hb8⟩
    have HN5 : Hid (Nb5 w.heap.size u1 u2 u3 u4 u5) := hide (hn5.le H7.out.bel.size)
    clear hn5
    have HV := hide hv
    have H8 := hide (H7.out.keep hb8)
    obtain ⟨q1, n1, rfl⟩ : ∃ q c, u1 = .slice q l1.length c := by obtain ⟨q, c, e, -, -⟩ := hv.s1; exact ⟨_, _, e⟩
    obtain ⟨q2, n2, rfl⟩ : ∃ q c, u2 = .slice q l2.length c := by obtain ⟨q, c, e, -, -⟩ := hv.s2; exact ⟨_, _, e⟩
    obtain ⟨q3, n3, rfl⟩ : ∃ q c, u3 = .slice q l3.length c := by obtain ⟨q, c, e, -, -⟩ := hv.s3; exact ⟨_, _, e⟩
    obtain ⟨q4, n4, rfl⟩ : ∃ q c, u4 = .slice q l4.length c := by obtain ⟨q, c, e, -, -⟩ := hv.s4; exact ⟨_, _, e⟩
    obtain ⟨q5, n5, rfl⟩ : ∃ q c, u5 = .slice q l5.length c := by obtain ⟨q, c, e, -, -⟩ := hv.s5; exact ⟨_, _, e⟩
    have HTH : Hid (w8.there (w.heap.size + 2) 6 9) := hide (fun j hj => by
      have h1 := H8.out.b2
      constructor
      · match j, hj with
        | 0, _ => exact Option.isSome_iff_exists.2 ⟨_, tag_cell h1 6 _ rfl⟩
        | 1, _ => exact Option.isSome_iff_exists.2 ⟨_, tag_cell h1 7 _ rfl⟩
        | 2, _ => exact Option.isSome_iff_exists.2 ⟨_, tag_cell h1 8 _ rfl⟩
        | 3, _ => exact Option.isSome_iff_exists.2 ⟨_, tag_cell h1 9 _ rfl⟩
        | 4, _ => exact Option.isSome_iff_exists.2 ⟨_, tag_cell h1 10 _ rfl⟩
        | 5, _ => exact Option.isSome_iff_exists.2 ⟨_, tag_cell h1 11 _ rfl⟩
        | 6, _ => exact Option.isSome_iff_exists.2 ⟨_, tag_cell h1 12 _ rfl⟩
        | 7, _ => exact Option.isSome_iff_exists.2 ⟨_, tag_cell h1 13 _ rfl⟩
        | 8, _ => exact Option.isSome_iff_exists.2 ⟨_, tag_cell h1 14 _ rfl⟩
      · exact etag_free h1 _)
    clear hv hb8 C8 H7
    refine kk _ _ ?_
    clear kk
    go_step
    rename_i kk
    go_simp
    refine kk _ _ ?_
    clear kk
    go_step
    rename_i kk
    go_simp
    refine kk _ _ ?_
    clear kk
    go_step
    rename_i kk
    go_simp
    refine kk _ _ ?_
    clear kk
    go_step
    rename_i kk
    go_simp
    refine kk _ _ ?_
    clear kk
    refine wpList_store_mid rfl 33 _ _ rfl (w.heap.size + 2) 6 #[.int .i64 Q.ep, .slice q1 l1.length n1, .slice q2 l2.length n2, .slice q3 l3.length n3, .slice q4 l4.length n4, .slice q5 l5.length n5, .int .i64 Q.dp, .int .i64 Q.nd, .int .i64 Q.bt] rfl rfl HTH.out (by kernel_rfl) (by simp [Value.oneCell']) ?_
    obtain ⟨w9, hw9⟩ : ∃ w9, w9 = w8.setCells (w.heap.size + 2) 6 (#[.int .i64 Q.ep, .slice q1 l1.length n1, .slice q2 l2.length n2, .slice q3 l3.length n3, .slice q4 l4.length n4, .slice q5 l5.length n5, .int .i64 Q.dp, .int .i64 Q.nd, .int .i64 Q.bt] : Array Value).toList := ⟨_, rfl⟩
    have H9 : Hid (RD w #[.int .i64 3, .int .i64 f, .int .i64 t, .int .i64 ep, .slice none 0 0, .slice none 0 0, .int .i64 Q.ep, .slice q1 l1.length n1, .slice q2 l2.length n2, .slice q3 l3.length n3, .slice q4 l4.length n4, .slice q5 l5.length n5, .int .i64 Q.dp, .int .i64 Q.nd, .int .i64 Q.bt] s5 w9) := hide (by
      rw [hw9]
      refine ⟨?_, ?_, ?_, ?_⟩
      · rw [setCells_other (show w.heap.size ≠ w.heap.size + 2 by omega)]
        exact H8.out.b0
      · unfold RdB
        rw [setCells_other (show w.heap.size + 1 ≠ w.heap.size + 2 by omega)]
        exact H8.out.b1
      · exact block9 _ _ _ _ _ _ _ _ _ _ _ _ _ _ _ _ _ _ _ _ _ _ _ _ H8.out.b2
      · exact setCells_below (Nat.le_add_right _ _) _ _ _ H8.out.bel)
    have HM : Hid (∀ m', MRight m' → textM m' = bl s → (⟨3, f, t, ep, [], [], Q⟩ : Ms) = m') := hide (fun m' h e => by
      obtain ⟨a1, a2, a3, a4⟩ := H4.out m' h e
      have hid := pre_pol h e a1.symm P5.out
      rw [← HQ.out] at hid
      exact Ms.ext' a1 a2 a3 a4 (h.ids (by omega)).symm (h.posts (by omega)).symm hid)
    have HMV : Hid (MV w9 ⟨3, f, t, ep, [], [], Q⟩ (.slice none 0 0) (.slice none 0 0) (.slice q1 l1.length n1) (.slice q2 l2.length n2) (.slice q3 l3.length n3) (.slice q4 l4.length n4) (.slice q5 l5.length n5) [] [] l1 l2 l3 l4 l5) := hide (by
      have h0 : MV w8 ⟨3, f, t, ep, [], [], Q⟩ (.slice none 0 0) (.slice none 0 0) (.slice q1 l1.length n1) (.slice q2 l2.length n2) (.slice q3 l3.length n3) (.slice q4 l4.length n4) (.slice q5 l5.length n5) [] [] l1 l2 l3 l4 l5 := ⟨strArg_nil _, postRow_nil _, HV.out, rfl, rfl, HF.out, by simp, by simp⟩
      exact h0.at' H8.out.b2 (noS_msg _ _ _ _ _ _ _ _ none none none none none none none 0 0 0 0 0 0 0 0 0 0 0 0 0 0) (fun j hj => by rw [hw9]; exact setCells_other hj _ _ _) (HG.out.below H9.out.bel))
    rw [← hw9]
    clear hw9 H8 HTH HV HF HQ H4
    go_upto_region 18 with fail
    go_step
    refine wpList_load_row rfl 35 _ rfl (w.heap.size + 2) rfl 35 #[.int .i64 3, .int .i64 f, .int .i64 t, .int .i64 ep, .slice none 0 0, .slice none 0 0, .int .i64 Q.ep, .slice q1 l1.length n1, .slice q2 l2.length n2, .slice q3 l3.length n3, .slice q4 l4.length n4, .slice q5 l5.length n5, .int .i64 Q.dp, .int .i64 Q.nd, .int .i64 Q.bt] (0, 0) _ H9.out.b2 Tryz.underlying35 rfl (by kernel_rfl) ?_
    refine wpList_store_row rfl 35 _ _ rfl w.heap.size #[.int .i64 3, .int .i64 f, .int .i64 t, .int .i64 ep, .slice none 0 0, .slice none 0 0, .int .i64 Q.ep, .slice q1 l1.length n1, .slice q2 l2.length n2, .slice q3 l3.length n3, .slice q4 l4.length n4, .slice q5 l5.length n5, .int .i64 Q.dp, .int .i64 Q.nd, .int .i64 Q.bt] rfl rfl 35 _ H9.out.b0 (by kernel_rfl) rfl (by simp [Value.oneCell']) ?_
    obtain ⟨wz, hwz⟩ : ∃ wz, wz = w9.setRow w.heap.size #[.int .i64 3, .int .i64 f, .int .i64 t, .int .i64 ep, .slice none 0 0, .slice none 0 0, .int .i64 Q.ep, .slice q1 l1.length n1, .slice q2 l2.length n2, .slice q3 l3.length n3, .slice q4 l4.length n4, .slice q5 l5.length n5, .int .i64 Q.dp, .int .i64 Q.nd, .int .i64 Q.bt] := ⟨_, rfl⟩
    have KZ : Hid (wz.heap[w.heap.size]? = some (.cells #[.int .i64 3, .int .i64 f, .int .i64 t, .int .i64 ep, .slice none 0 0, .slice none 0 0, .int .i64 Q.ep, .slice q1 l1.length n1, .slice q2 l2.length n2, .slice q3 l3.length n3, .slice q4 l4.length n4, .slice q5 l5.length n5, .int .i64 Q.dp, .int .i64 Q.nd, .int .i64 Q.bt] 35 (0, 0))) := hide (by rw [hwz]; exact setRow_heap _ _ _ _ _ _ H9.out.b0)
    have BZ : Hid (Below w.heap.size w wz) := hide (by rw [hwz]; exact below_row H9.out.bel (Nat.le_refl _) _)
    have HFR : Hid (Frs w.heap.size wz [] (.slice none 0 0) (.slice none 0 0) (.slice q1 l1.length n1) (.slice q2 l2.length n2) (.slice q3 l3.length n3) (.slice q4 l4.length n4) (.slice q5 l5.length n5)) := hide ⟨ownNil _ _, nbV_nil _, HN5.out⟩
    have MZ : Hid (MV wz ⟨3, f, t, ep, [], [], Q⟩ (.slice none 0 0) (.slice none 0 0) (.slice q1 l1.length n1) (.slice q2 l2.length n2) (.slice q3 l3.length n3) (.slice q4 l4.length n4) (.slice q5 l5.length n5) [] [] l1 l2 l3 l4 l5) := hide (HMV.out.at' H9.out.b0 noS_zmsg (fun j hj => by rw [hwz]; exact setRow_other _ _ _ _ hj) (HG.out.below BZ.out))
    rw [← hwz]
    clear hwz
    go_wp2_with fail
    refine bodyPost_ret (results_cell_row rfl _ _ w.heap.size 35 #[.int .i64 3, .int .i64 f, .int .i64 t, .int .i64 ep, .slice none 0 0, .slice none 0 0, .int .i64 Q.ep, .slice q1 l1.length n1, .slice q2 l2.length n2, .slice q3 l3.length n3, .slice q4 l4.length n4, .slice q5 l5.length n5, .int .i64 Q.dp, .int .i64 Q.nd, .int .i64 Q.bt] (0, 0) _ rfl KZ.out Tryz.underlying35 rfl (by kernel_rfl)) rfl ?_
    exact ⟨⟨⟨3, f, t, ep, [], [], Q⟩, _, _, _, _, _, _, _, [], [], l1, l2, l3, l4, l5, rfl, MZ.out, HM.out, HFR.out⟩, BZ.out⟩
  have e3 : (k == 3) = false := by simp [k3]
  have HM : Hid (∀ m', MRight m' → textM m' = bl s → (⟨k, f, t, ep, [], [], Pol.zero⟩ : Ms) = m') := hide (fun m' h e => by
    obtain ⟨a1, a2, a3, a4⟩ := H4.out m' h e
    exact Ms.ext' a1 a2 a3 a4 (h.ids (by omega)).symm (h.posts (by omega)).symm (h.pol (by omega)).symm)
  have HMV : Hid (MV w6 ⟨k, f, t, ep, [], [], Pol.zero⟩ (.slice none 0 0) (.slice none 0 0) (.slice none 0 0) (.slice none 0 0) (.slice none 0 0) (.slice none 0 0) (.slice none 0 0) [] [] [] [] [] [] []) := hide (MV.bare k f t ep (HG.out.below H6.out.bel))
  clear k1 k2 k3 H4
  go_upto_region 18 with fail
  go_step
  refine wpList_load_row rfl 35 _ rfl (w.heap.size + 2) rfl 35 #[.int .i64 k, .int .i64 f, .int .i64 t, .int .i64 ep, .slice none 0 0, .slice none 0 0, .int .i64 0, .slice none 0 0, .slice none 0 0, .slice none 0 0, .slice none 0 0, .slice none 0 0, .int .i64 0, .int .i64 0, .int .i64 0] (0, 0) _ H6.out.b2 Tryz.underlying35 rfl (by kernel_rfl) ?_
  refine wpList_store_row rfl 35 _ _ rfl w.heap.size #[.int .i64 k, .int .i64 f, .int .i64 t, .int .i64 ep, .slice none 0 0, .slice none 0 0, .int .i64 0, .slice none 0 0, .slice none 0 0, .slice none 0 0, .slice none 0 0, .slice none 0 0, .int .i64 0, .int .i64 0, .int .i64 0] rfl rfl 35 _ H6.out.b0 (by kernel_rfl) rfl (by simp [Value.oneCell']) ?_
  obtain ⟨wz, hwz⟩ : ∃ wz, wz = w6.setRow w.heap.size #[.int .i64 k, .int .i64 f, .int .i64 t, .int .i64 ep, .slice none 0 0, .slice none 0 0, .int .i64 0, .slice none 0 0, .slice none 0 0, .slice none 0 0, .slice none 0 0, .slice none 0 0, .int .i64 0, .int .i64 0, .int .i64 0] := ⟨_, rfl⟩
  have KZ : Hid (wz.heap[w.heap.size]? = some (.cells #[.int .i64 k, .int .i64 f, .int .i64 t, .int .i64 ep, .slice none 0 0, .slice none 0 0, .int .i64 0, .slice none 0 0, .slice none 0 0, .slice none 0 0, .slice none 0 0, .slice none 0 0, .int .i64 0, .int .i64 0, .int .i64 0] 35 (0, 0))) := hide (by rw [hwz]; exact setRow_heap _ _ _ _ _ _ H6.out.b0)
  have BZ : Hid (Below w.heap.size w wz) := hide (by rw [hwz]; exact below_row H6.out.bel (Nat.le_refl _) _)
  have HFR : Hid (Frs w.heap.size wz [] (.slice none 0 0) (.slice none 0 0) (.slice none 0 0) (.slice none 0 0) (.slice none 0 0) (.slice none 0 0) (.slice none 0 0)) := hide (Frs.nil _ _)
  have MZ : Hid (MV wz ⟨k, f, t, ep, [], [], Pol.zero⟩ (.slice none 0 0) (.slice none 0 0) (.slice none 0 0) (.slice none 0 0) (.slice none 0 0) (.slice none 0 0) (.slice none 0 0) [] [] [] [] [] [] []) := hide (HMV.out.at' H6.out.b0 noS_zmsg (fun j hj => by rw [hwz]; exact setRow_other _ _ _ _ hj) (HG.out.below BZ.out))
  rw [← hwz]
  clear hwz
  go_wp2_with fail
  refine bodyPost_ret (results_cell_row rfl _ _ w.heap.size 35 #[.int .i64 k, .int .i64 f, .int .i64 t, .int .i64 ep, .slice none 0 0, .slice none 0 0, .int .i64 0, .slice none 0 0, .slice none 0 0, .slice none 0 0, .slice none 0 0, .slice none 0 0, .int .i64 0, .int .i64 0, .int .i64 0] (0, 0) _ rfl KZ.out Tryz.underlying35 rfl (by kernel_rfl)) rfl ?_
  exact ⟨⟨⟨k, f, t, ep, [], [], Pol.zero⟩, _, _, _, _, _, _, _, [], [], [], [], [], [], [], rfl, MZ.out, HM.out, HFR.out⟩, BZ.out⟩
end Go.Proofs.YtmogplecohkjcaaGreatDoor
