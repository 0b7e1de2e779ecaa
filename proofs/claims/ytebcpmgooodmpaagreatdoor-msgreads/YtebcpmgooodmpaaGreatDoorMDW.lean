/-
  The document's Decode of what is no message, walked.
-/
import Derived.Test.YtebcpmgooodmpaaGreatDoorMD2Z
import Derived.Test.YtebcpmgooodmpaaGreatDoorMD9
import Derived.Test.YtebcpmgooodmpaaGreatDoorME10
import Derived.Test.YtebcpmgooodmpaaGreatDoorRX
import Derived.Test.YtebcpmgooodmpaaGreatDoorDU
import Derived.Laws.AppendOwnNone
namespace Go.Proofs.YtebcpmgooodmpaaGreatDoor
open Go.RowKit
open Utf1
open Pol8 hiding text right Right
open Msg15

set_option maxRecDepth 100000 in
set_option maxHeartbeats 64000000 in
theorem mdecode_short (s : ByteArray) (hs : s.size ≤ 8000) (w : World) (hg : Glob w) (l : List L) (left : L) (hfl : Fl (bl s) l left) (hbeg : begB left = true) :
    Calls Tryz.prog 16 #[.string s] w fun e w' => DecQ w' (bl s) e ∧ Below w.heap.size w w' := by
  have HG := hide hg
  have HFL := hide hfl
  have hll : left.length ≤ 8000 := by
    have h := congrArg List.length hfl.eq
    rw [List.length_append, bl_len] at h
    omega
  obtain ⟨w1, hw1⟩ : ∃ w1, w1 = w.alloc (.cells zmsg 27) := ⟨_, rfl⟩
  have hb1 : Below w.heap.size w w1 := by rw [hw1]; exact bel_alloc (Below.refl _ _) _
  have HB1 := hide hb1
  have K1 : Hid (w1.heap[w.heap.size]? = some (.cells zmsg 27 (0, 0))) := hide (by rw [hw1]; exact new_block _ _ _)
  have C1 := hide (mfields_any s (by omega) w1)
  clear hg hb1
  go_enter Tryz.func16, Tryz.ntmps16
  go_upto_region 1 with fail
  rw [← hw1]
  clear hw1
  go_wp2_with fail
  refine C1.out.mono ?_
  rintro e w2 ⟨⟨v, ps, lf, rfl, ⟨hv, hcp⟩, hf⟩, hb2⟩
  have HCP := hide hcp
  clear hcp
  obtain ⟨hl, hlf⟩ := hfl.one hf
  have K2 : Hid (w2.heap[w.heap.size]? = some (.cells zmsg 27 (0, 0))) := hide ((hb2.block _ (Array.getElem?_eq_some_iff.1 K1.out).1).trans K1.out)
  have HB2 : Hid (Below w.heap.size w w2) := hide (HB1.out.trans (hb2.mono HB1.out.size))
  have HV := hide hv
  obtain ⟨p, cap, rfl, -, -⟩ := hv
  have hlfs : lf.size ≤ 8000 := by rw [← bl_len, ← hlf]; exact hll
  have C2 := hide (mbegins_any lf (by omega) w2)
  rw [← hlf] at C2
  have HL := hide hl
  have HLF := hide hlf
  clear hfl hf hb2 hl hlf C1 HB1 K1 hll
  go_wp2_with fail
  refine C2.out.mono ?_
  rintro e w2' ⟨rfl, hw2⟩
  have hw2' := hw2.symm
  clear hw2
  subst hw2'
  clear C2
  rw [hbeg]
  have HD : Hid (Dcd (bl s) Ms.zero 3) := hide (.inr ⟨fun m' h e => by
    obtain ⟨_, h1⟩ := HFL.out.one (by rw [← e]; exact fl_text h)
    rw [h1] at hbeg
    exact absurd hbeg (by decide), rfl, l, left, HFL.out, by rw [hbeg]; rfl⟩)
  clear hbeg HFL HL HLF HV
  go_upto_region 3 with fail
  go_step
  go_step
  rename_i kk
  go_simp
  refine kk _ _ ?_
  clear kk
  refine wpList_store_row rfl 27 _ _ rfl w.heap.size zmsg rfl rfl 27 _ K2.out (by kernel_rfl) rfl (by simp [Value.oneCell']) ?_
  obtain ⟨w6, hw6⟩ : ∃ w6, w6 = w2.setRow w.heap.size zmsg := ⟨_, rfl⟩
  have K6 : Hid (w6.heap[w.heap.size]? = some (.cells zmsg 27 (0, 0))) := hide (by rw [hw6]; exact setRow_heap _ _ _ _ _ _ K2.out)
  have B6 : Hid (Below w.heap.size w w6) := hide (by rw [hw6]; exact below_row HB2.out (Nat.le_refl _) _)
  rw [← hw6]
  clear hw6 K2 HB2
  go_wp2_with fail
  refine bodyPost_ret (results_row_tmp rfl _ _ w.heap.size 27 zmsg (0, 0) _ rfl K6.out Tryz.underlying27 rfl (by kernel_rfl)) rfl ?_
  exact ⟨⟨Ms.zero, 3, _, _, _, _, _, _, _, [], [], [], [], [], [], [], rfl, MV.bare 0 0 0 0 (HG.out.below B6.out), HD.out⟩, B6.out⟩
set_option maxRecDepth 100000 in
set_option maxHeartbeats 64000000 in
theorem mdecode_form (s : ByteArray) (hs : s.size ≤ 8000) (w : World) (hg : Glob w) (l : List L) (left : L) (hfl : Fl (bl s) l left) (hbeg : begB left = false) (hnot : left ≠ [] ∨ l.length < 4) :
    Calls Tryz.prog 16 #[.string s] w fun e w' => DecQ w' (bl s) e ∧ Below w.heap.size w w' := by
  have HG := hide hg
  have HFL := hide hfl
  have hll : left.length ≤ 8000 := by
    have h := congrArg List.length hfl.eq
    rw [List.length_append, bl_len] at h
    omega
  obtain ⟨w1, hw1⟩ : ∃ w1, w1 = w.alloc (.cells zmsg 27) := ⟨_, rfl⟩
  have hb1 : Below w.heap.size w w1 := by rw [hw1]; exact bel_alloc (Below.refl _ _) _
  have HB1 := hide hb1
  have K1 : Hid (w1.heap[w.heap.size]? = some (.cells zmsg 27 (0, 0))) := hide (by rw [hw1]; exact new_block _ _ _)
  have C1 := hide (mfields_any s (by omega) w1)
  clear hg hb1
  go_enter Tryz.func16, Tryz.ntmps16
  go_upto_region 1 with fail
  rw [← hw1]
  clear hw1
  go_wp2_with fail
  refine C1.out.mono ?_
  rintro e w2 ⟨⟨v, ps, lf, rfl, ⟨hv, hcp⟩, hf⟩, hb2⟩
  have HCP := hide hcp
  clear hcp
  obtain ⟨hl, hlf⟩ := hfl.one hf
  have K2 : Hid (w2.heap[w.heap.size]? = some (.cells zmsg 27 (0, 0))) := hide ((hb2.block _ (Array.getElem?_eq_some_iff.1 K1.out).1).trans K1.out)
  have HB2 : Hid (Below w.heap.size w w2) := hide (HB1.out.trans (hb2.mono HB1.out.size))
  have HV := hide hv
  obtain ⟨p, cap, rfl, -, -⟩ := hv
  have hlfs : lf.size ≤ 8000 := by rw [← bl_len, ← hlf]; exact hll
  have C2 := hide (mbegins_any lf (by omega) w2)
  rw [← hlf] at C2
  have HL := hide hl
  have HLF := hide hlf
  clear hfl hf hb2 hl hlf C1 HB1 K1 hll
  go_wp2_with fail
  refine C2.out.mono ?_
  rintro e w2' ⟨rfl, hw2⟩
  have hw2' := hw2.symm
  clear hw2
  subst hw2'
  clear C2
  rw [hbeg]
  have HD : Hid (Dcd (bl s) Ms.zero 2) := hide (.inr ⟨fun m' h e => by
    obtain ⟨h0, h1⟩ := HFL.out.one (by rw [← e]; exact fl_text h)
    rcases hnot with hn | hn
    · exact hn h1
    · rw [h0] at hn
      have : 4 ≤ (listM m').length := by show 4 ≤ (body m').length + 1 + 1 + 1 + 1; omega
      omega, rfl, l, left, HFL.out, by rw [hbeg]; rfl⟩)
  have hps : ps.length = l.length := by rw [HL.out, List.length_map]
  by_cases hn : left = []
  · have h4 : ps.length < 4 := by
      rcases hnot with h | h
      · exact absurd hn h
      · omega
    have d4 : decide ((ps.length : Int) < 4) = true := decide_eq_true (by omega)
    have d4' : decide (ps.length < 4) = true := decide_eq_true h4
    have hlf0 : lf = ⟨#[]⟩ := ba_ext (by rw [← HLF.out, hn])
    subst hlf0
    clear hbeg hnot hn hps HFL HL HLF HV h4
    go_upto_region 5 with fail
    go_step
    go_step
    rename_i kk
    go_simp
    refine kk _ _ ?_
    clear kk
    refine wpList_store_row rfl 27 _ _ rfl w.heap.size zmsg rfl rfl 27 _ K2.out (by kernel_rfl) rfl (by simp [Value.oneCell']) ?_
    obtain ⟨w6, hw6⟩ : ∃ w6, w6 = w2.setRow w.heap.size zmsg := ⟨_, rfl⟩
    have K6 : Hid (w6.heap[w.heap.size]? = some (.cells zmsg 27 (0, 0))) := hide (by rw [hw6]; exact setRow_heap _ _ _ _ _ _ K2.out)
    have B6 : Hid (Below w.heap.size w w6) := hide (by rw [hw6]; exact below_row HB2.out (Nat.le_refl _) _)
    rw [← hw6]
    clear hw6 K2 HB2
    go_wp2_with fail
    refine bodyPost_ret (results_row_tmp rfl _ _ w.heap.size 27 zmsg (0, 0) _ rfl K6.out Tryz.underlying27 rfl (by kernel_rfl)) rfl ?_
    exact ⟨⟨Ms.zero, 2, _, _, _, _, _, _, _, [], [], [], [], [], [], [], rfl, MV.bare 0 0 0 0 (HG.out.below B6.out), HD.out⟩, B6.out⟩
  · have hlf0 : (lf.toList == []) = false := by rw [ByteArray.toList_eq]; exact beq_eq_false_iff_ne.2 (fun e => hn (by rw [HLF.out]; exact e))
    have hlf1 : lf.toList.isEmpty = false := by rw [empty_bl]; exact decide_eq_false (fun e => hn (by rw [HLF.out]; exact e))
    have hlf2 : (lf.toList != []) = true := by rw [bne, hlf0]; rfl
    clear hbeg hnot hn hps HFL HL HLF HV
    go_upto_region 5 with fail
    go_step
    go_step
    rename_i kk
    go_simp
    refine kk _ _ ?_
    clear kk
    refine wpList_store_row rfl 27 _ _ rfl w.heap.size zmsg rfl rfl 27 _ K2.out (by kernel_rfl) rfl (by simp [Value.oneCell']) ?_
    obtain ⟨w6, hw6⟩ : ∃ w6, w6 = w2.setRow w.heap.size zmsg := ⟨_, rfl⟩
    have K6 : Hid (w6.heap[w.heap.size]? = some (.cells zmsg 27 (0, 0))) := hide (by rw [hw6]; exact setRow_heap _ _ _ _ _ _ K2.out)
    have B6 : Hid (Below w.heap.size w w6) := hide (by rw [hw6]; exact below_row HB2.out (Nat.le_refl _) _)
    rw [← hw6]
    clear hw6 K2 HB2
    go_wp2_with fail
    refine bodyPost_ret (results_row_tmp rfl _ _ w.heap.size 27 zmsg (0, 0) _ rfl K6.out Tryz.underlying27 rfl (by kernel_rfl)) rfl ?_
    exact ⟨⟨Ms.zero, 2, _, _, _, _, _, _, _, [], [], [], [], [], [], [], rfl, MV.bare 0 0 0 0 (HG.out.below B6.out), HD.out⟩, B6.out⟩
end Go.Proofs.YtebcpmgooodmpaaGreatDoor

namespace Msg15
open Go
open Pol8 hiding text right Right
/-- A list in pairs. -/
def prs {α : Type} : List α → List (α × α)
  | a :: b :: r => (a, b) :: prs r
  | _ => []
theorem prs_two : ∀ l : List (L × L), prs (two l) = l
  | [] => rfl
  | p :: r => by
    show (p.1, p.2) :: prs (two r) = p :: r
    rw [prs_two r]
theorem prs_map {α β : Type} (g : α → β) : ∀ l : List α, (prs l).map (fun x => (g x.1, g x.2)) = prs (l.map g)
  | [] => rfl
  | [_] => rfl
  | a :: b :: r => by
    show (g a, g b) :: (prs r).map _ = (g a, g b) :: prs (r.map g)
    rw [prs_map g r]
theorem prs_len {α : Type} : ∀ l : List α, (prs l).length = l.length / 2
  | [] => by simp [prs]
  | [_] => by simp [prs]
  | a :: b :: r => by
    show (prs r).length + 1 = (r.length + 1 + 1) / 2
    rw [prs_len r]
    omega
theorem prs_at {α : Type} : ∀ (l : List α) (j : Nat) (x y : α), l[2 * j]? = some x → l[2 * j + 1]? = some y → (prs l)[j]? = some (x, y)
  | [], _, _, _, h, _ => by simp at h
  | [_], j, _, _, _, h => by simp at h
  | a :: b :: r, 0, x, y, h1, h2 => by
    injection h1 with h1
    injection h2 with h2
    subst h1 h2
    rfl
  | a :: b :: r, j + 1, x, y, h1, h2 => by
    show (prs r)[j]? = _
    refine prs_at r j x y ?_ ?_
    · rw [← h1, show 2 * (j + 1) = 2 * j + 1 + 1 from by omega]; rfl
    · rw [← h2, show 2 * (j + 1) + 1 = 2 * j + 1 + 1 + 1 from by omega]; rfl
end Msg15
namespace Go.Proofs.YtebcpmgooodmpaaGreatDoor
open Go.RowKit
open Utf1
open Pol8 hiding text right Right
open Msg15

theorem mstep_wanted {ops : Array Oper} {o : Oper} {a : Act} {w : World} {K : Act → World → Prop} {Q : Exit → Act → World → Prop} {E : Prop}
    (hg : o.guard = none) (h : Oper.wp Tryz.prog o a w K Q) :
    if Region.wanted o (yielded ops a.tmps) = true then Oper.wp Tryz.prog o a w K Q else E := by
  have hw : Region.wanted o (yielded ops a.tmps) = true := by simp [Region.wanted, hg]
  rw [if_pos hw]
  exact h
theorem cand_head {s : L} {l : List L} {m' : Ms} {x0 x1 x2 x3 : ByteArray} {rs : List ByteArray} (hf : Fl s l []) (hl : l = (x0 :: x1 :: x2 :: x3 :: rs).map bl) (hr : MRight m') (ht : textM m' = s) :
    m'.kind = numM (bl x0) ∧ m'.fr = numM (bl x1) ∧ m'.to = numM (bl x2) ∧ m'.ep = numM (bl x3) ∧ body m' = rs.map bl := by
  obtain ⟨h0, _⟩ := hf.one (by rw [← ht]; exact fl_text hr)
  rw [hl] at h0
  unfold listM at h0
  simp only [List.map_cons] at h0
  injection h0 with e0 h0
  injection h0 with e1 h0
  injection h0 with e2 h0
  injection h0 with e3 h0
  have nd : ∀ z : Int, 0 ≤ z → z ≤ 1000000 → numM (dec z.toNat) = z := fun z h1 h2 => by rw [numM_dec _ (by omega)]; omega
  have a1 := hr.fr
  have a2 := hr.to
  have a3 := hr.ep
  have a4 := hr.kind
  refine ⟨?_, ?_, ?_, ?_, h0.symm⟩
  · rw [e0, nd _ (by omega) (by omega)]
  · rw [e1, nd _ (by omega) (by omega)]
  · rw [e2, nd _ (by omega) (by omega)]
  · rw [e3, nd _ (by omega) (by omega)]
structure DB (w : World) (g : Nat) (A : Array Value) (wx : World) : Prop where
  lt : w.heap.size < g
  b0 : wx.heap[w.heap.size]? = some (.cells zmsg 27 (0, 0))
  b2 : wx.heap[g]? = some (.cells A 27 (0, 0))
  bel : Below w.heap.size w wx
theorem DB.keep {w wx wy : World} {g : Nat} {A : Array Value} (h : DB w g A wx) (hb : Below wx.heap.size wx wy) : DB w g A wy :=
  ⟨h.lt, (hb.block _ (Array.getElem?_eq_some_iff.1 h.b0).1).trans h.b0, (hb.block _ (Array.getElem?_eq_some_iff.1 h.b2).1).trans h.b2, h.bel.trans (hb.mono h.bel.size)⟩
theorem DB.set {w wx : World} {g : Nat} {A : Array Value} (h : DB w g A wx) (j : Nat) (v : Value) : DB w g (A.setIfInBounds j v) (wx.setCell ⟨g, j, none⟩ v) :=
  ⟨h.lt, by rw [Below.heap_setCell _ _ _ _ (show w.heap.size ≠ g by have := h.lt; omega)]; exact h.b0, etok_set h.b2 j v, h.bel.setCell (p := ⟨g, j, none⟩) (Nat.le_of_lt h.lt) _⟩
theorem DB.grown {w wx wy : World} {g base : Nat} {A : Array Value} {e : TypeId} {sz n : Nat} {v : Value} {xs : List Value} (h : DB w g A wx) (ho : wx.ownsRow base e sz v n xs) (hbase : w.heap.size ≤ base) (he : e ≠ 27) (hg : wx.grownBy wy v.ownBlock) : DB w g A wy :=
  ⟨h.lt, (hg.block _ (Array.getElem?_eq_some_iff.1 h.b0).1 (fun x => eown_apart ho h.b0 he x.symm)).trans h.b0, (hg.block _ (Array.getElem?_eq_some_iff.1 h.b2).1 (fun x => eown_apart ho h.b2 he x.symm)).trans h.b2, h.bel.grown hg h.bel.size (fun k hk => Nat.le_trans hbase (ho.lt k hk).1)⟩
structure KP (g : Nat) (w3 wx : World) : Prop where
  sz : w3.heap.size ≤ wx.heap.size
  blk : ∀ k, k < w3.heap.size → k ≠ g → wx.heap[k]? = w3.heap[k]?
theorem KP.refl (g : Nat) (w : World) : KP g w w := ⟨Nat.le_refl _, fun _ _ _ => rfl⟩
theorem KP.keep {g : Nat} {w3 wx wy : World} (h : KP g w3 wx) (hb : Below wx.heap.size wx wy) : KP g w3 wy :=
  ⟨Nat.le_trans h.sz hb.size, fun k hk hn => (hb.block k (Nat.lt_of_lt_of_le hk h.sz)).trans (h.blk k hk hn)⟩
theorem KP.grown {g : Nat} {w3 wx wy : World} {e : TypeId} {sz n : Nat} {v : Value} {xs : List Value} (h : KP g w3 wx) (ho : wx.ownsRow w3.heap.size e sz v n xs) (hg : wx.grownBy wy v.ownBlock) : KP g w3 wy :=
  ⟨Nat.le_trans h.sz hg.size, fun k hk hn => (hg.block k (Nat.lt_of_lt_of_le hk h.sz) (fun x => by have := (ho.lt k x.symm).1; omega)).trans (h.blk k hk hn)⟩
theorem KP.set {g : Nat} {w3 wx : World} (h : KP g w3 wx) (j : Nat) (v : Value) : KP g w3 (wx.setCell ⟨g, j, none⟩ v) :=
  ⟨by have := h.sz; simpa [World.setCell] using this, fun k hk hn => (Below.heap_setCell _ _ _ _ hn).trans (h.blk k hk hn)⟩
theorem KP.cell {g : Nat} {w3 wx : World} (h : KP g w3 wx) {b o : Nat} (hb : b < w3.heap.size) (hn : b ≠ g) : wx.cell? ⟨b, o, none⟩ = w3.cell? ⟨b, o, none⟩ := World.cell?_of_block (h.blk b hb hn)
set_option maxRecDepth 100000 in
/-- Strings behind a row of one's own. -/
theorem mappend_strs {w : World} {ops : Array Oper} {rest : List Oper} {o : Oper} {a : Act} {Q : Exit → Act → World → Prop} (hgd : o.guard = none) (s x : Operand)
    (ho : o.op = .call { callee := .builtin .append, args := #[s, x], argTypes := #[22, 22] })
    (base : Nat) (v : Value) (n : Nat) (xs : List ByteArray) (hs : a.eval s = v) (hown : w.ownsRow base 9 1 v n (strV xs))
    (u : Value) (l : List ByteArray) (hx : a.eval x = u) (hl : StrArg w u l) (h63 : n + l.length ≤ 100000000) (hbase : base ≤ w.heap.size)
    (h : ∀ v' w', w'.ownsRow base 9 1 v' (n + l.length) (strV (xs ++ l)) → w.grownBy w' v.ownBlock → wpList Tryz.prog ops Q rest (a.put o.dst v') w') : wpList Tryz.prog ops Q (o :: rest) a w := by
  obtain ⟨i0, hi, hz0, hz1, hz2⟩ := info_parts infoStr
  obtain ⟨p, cap, rfl, h0, hc⟩ := hl
  cases p with
  | none =>
    have hl0 : l = [] := by
      cases l with
      | nil => rfl
      | cons y l =>
        obtain ⟨_, _, e, _⟩ := hc 0 y rfl
        cases e
    subst hl0
    rw [h0 rfl] at hx
    refine wpList_append_own_none hgd s x 22 ho base 9 i0 1 Tryz.underlying22 hi v n _ hs hown hx ?_
    refine h v w ?_ ⟨rfl, rfl, rfl, Nat.le_refl _, fun _ _ _ => rfl⟩
    rw [List.append_nil]
    exact hown
  | some ad =>
    refine wpList_append_own w hgd s x 22 ho base 9 i0 _ 1 16 Tryz.underlying22 hi hz0 hz1 hz2 rfl (by decide) v n _ hs hown ad l.length cap (strV l) hx (by rw [strV_len, Nat.mul_one]) (fun j u hj => ?_) (fun y hy => ?_) (by unfold maxLen; omega) (by omega) hbase fun v' w' h1 h2 _ => h v' w' ?_ h2
    · unfold strV at hj
      rw [List.getElem?_map] at hj
      cases hlj : l[j]? with
      | none => rw [hlj] at hj; cases hj
      | some y =>
        rw [hlj] at hj
        obtain ⟨b, off, e, hcell⟩ := hc j y hlj
        injection e with e
        subst e
        rw [add_plain, hcell]
        exact hj
    · unfold strV at hy
      obtain ⟨z, _, rfl⟩ := List.mem_map.1 hy
      rfl
    · rw [strV_app]
      exact h1
theorem own_empty (w : World) (base : Nat) (h : base ≤ w.heap.size) : (w.alloc (.cells #[] 9)).ownsRow base 9 1 (.slice (some ⟨w.heap.size, 0, none⟩) 0 0) 0 (strV []) :=
  World.ownsRow_made w _ 0 h (by decide) rfl
/-- What stands behind the first of a row of texts. -/
theorem str_tail {w : World} {q : Option Addr} {n c : Nat} {rs : List ByteArray} (h : StrArg w (.slice q n c) rs) (hn : rs ≠ []) : ∃ b o, q = some ⟨b, o, none⟩ ∧ (∀ c', StrArg w (.slice (some ⟨b, o + 1, none⟩) (n - 1) c') rs.tail) ∧ (n = 1 → ∀ c', StrArg w (.slice (some ⟨b, o, none⟩) (n - 1) c') rs.tail) := by
  obtain ⟨p, cap, e, h0, hc⟩ := h
  injection e with e1 e2 e3
  subst e1 e2 e3
  cases rs with
  | nil => exact absurd rfl hn
  | cons x r =>
    obtain ⟨b, o, e4, _⟩ := hc 0 x rfl
    refine ⟨b, o, e4, fun c' => ⟨_, c', rfl, (fun h => by cases h), fun i s hi => ?_⟩, fun h1 c' => ?_⟩
    · obtain ⟨b', o', e5, hx⟩ := hc (i + 1) s hi
      rw [e4] at e5
      injection e5 with e5
      injection e5 with e6 e7
      subst e6 e7
      exact ⟨b, o + 1, rfl, by rw [show o + 1 + i = o + (i + 1) from by omega]; exact hx⟩
    · have hr : r = [] := List.eq_nil_of_length_eq_zero (by simpa using h1)
      subst hr
      exact ⟨_, c', rfl, (fun h => by cases h), fun i s hi => by simp at hi⟩
end Go.Proofs.YtebcpmgooodmpaaGreatDoor
