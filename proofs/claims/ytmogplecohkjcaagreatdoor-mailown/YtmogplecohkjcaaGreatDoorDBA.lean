/-
  Rows of messages of one's own; messages put behind one's own.
-/
import Derived.Test.YtmogplecohkjcaaGreatDoorMBZ
import Derived.Maps.AppendAt
namespace Go.Proofs.YtmogplecohkjcaaGreatDoor
open Go.RowKit
open Utf1
open Pol8 hiding text right Right
open Msg15 Mail17

def mflat (ts : List Im) : List Value := ts.flatMap Im.cells
theorem mflat_nil : mflat [] = [] := rfl
theorem mflat_cons (t : Im) (ts : List Im) : mflat (t :: ts) = t.cells ++ mflat ts := rfl
theorem mflat_app (a b : List Im) : mflat (a ++ b) = mflat a ++ mflat b := List.flatMap_append ..
theorem mflat_one (t : Im) : mflat [t] = t.cells := by simp [mflat]
theorem mflat_len : ∀ ts : List Im, (mflat ts).length = ts.length * 15
  | [] => rfl
  | t :: ts => by
    rw [mflat_cons, List.length_append, mflat_len ts, List.length_cons]
    show 15 + ts.length * 15 = (ts.length + 1) * 15
    omega
theorem mflat_at : ∀ (ts : List Im) (i k : Nat) (t : Im) (u : Value), ts[i]? = some t → t.cells[k]? = some u → (mflat ts)[i * 15 + k]? = some u
  | [], i, k, t, u, h, _ => by simp at h
  | x :: ts, 0, k, t, u, h, hk => by
    have e : x = t := by simpa using h
    subst e
    have hl : k < x.cells.length := (List.getElem?_eq_some_iff.1 hk).1
    rw [mflat_cons, Nat.zero_mul, Nat.zero_add, List.getElem?_append_left hl]
    exact hk
  | x :: ts, i + 1, k, t, u, h, hk => by
    have h' : ts[i]? = some t := by simpa using h
    rw [mflat_cons, List.getElem?_append_right (by show 15 ≤ (i + 1) * 15 + k; omega)]
    have e : (i + 1) * 15 + k - x.cells.length = i * 15 + k := by show (i + 1) * 15 + k - 15 = _; omega
    rw [e]
    exact mflat_at ts i k t u h' hk
theorem mflat_one_cell {ts : List Im} {w : World} (h : ∀ t ∈ ts, t.ok w) : ∀ u ∈ mflat ts, u.oneCell' = true := by
  intro u hu
  obtain ⟨t, ht, hm⟩ := List.mem_flatMap.1 hu
  have hk := h t ht
  obtain ⟨pi, ni, ci, pp, np, cp, p1, n1, c1, p2, n2, c2, p3, n3, c3, p4, n4, c4, p5, n5, c5, ei, ep, e1, e2, e3, e4, e5⟩ := Im.shape hk
  simp only [List.mem_cons, List.not_mem_nil, or_false] at hm
  rcases hm with rfl | rfl | rfl | rfl | rfl | rfl | rfl | rfl | rfl | rfl | rfl | rfl | rfl | rfl | rfl
  · rfl
  · rfl
  · rfl
  · rfl
  · rw [ei]; rfl
  · rw [ep]; rfl
  · rfl
  · rw [e1]; rfl
  · rw [e2]; rfl
  · rw [e3]; rfl
  · rw [e4]; rfl
  · rw [e5]; rfl
  · rfl
  · rfl
  · rfl
/-- A row of one's own, of policies. -/
structure OwnM (w : World) (B : Nat) (v : Value) (ts : List Im) : Prop where
  o : w.ownsRow B 35 15 v ts.length (mflat ts)
  k : ∀ t ∈ ts, t.ok w
theorem own_range {w : World} {B g n cap : Nat} {ts : List Im} (h : w.ownsRow B 35 15 (.slice (some ⟨g, 0, none⟩) n cap) n (mflat ts)) {i : Nat} {t : Im} (ht : ts[i]? = some t) : w.rangeAt g (0 + i * 15) t.cells := fun j u hj => by
  have h1 := h.cells rfl (i * 15 + j) u (mflat_at ts i j t u ht hj)
  rw [add_plain] at h1
  rw [Nat.add_assoc]
  exact h1
theorem OwnM.row {w : World} {B : Nat} {v : Value} {ts : List Im} (h : OwnM w B v ts) : MRow w v ts := by
  have ho := h.o
  rcases h.o.2 with ⟨rfl, hz⟩ | ⟨g, cap, cur, rfl, hB, hcur, hnc, hm, hsz, htk⟩
  · have : ts = [] := List.eq_nil_of_length_eq_zero hz
    subst this
    exact mRow_nil w
  · exact ⟨some ⟨g, 0, none⟩, cap, rfl, hnc, (fun e => by cases e), fun i t ht => ⟨⟨g, 0, rfl, own_range ho ht⟩, h.k t (List.mem_of_getElem? ht)⟩⟩
theorem OwnM.below {w w' : World} {B : Nat} {v : Value} {ts : List Im} (h : OwnM w B v ts) (hb : Below w.heap.size w w') : OwnM w' B v ts :=
  ⟨h.o.kept (row := none) (below_grown hb) (Classical.em _), fun t ht => (h.k t ht).below hb⟩
theorem minfoMsg : (Tryz.prog.info? 35).map (fun i => (i.zero, i.size, i.bytes)) = some (some (.agg #[.int .i64 0, .int .i64 0, .int .i64 0, .int .i64 0, .slice none 0 0, .slice none 0 0, .int .i64 0, .slice none 0 0, .slice none 0 0, .slice none 0 0, .slice none 0 0, .slice none 0 0, .int .i64 0, .int .i64 0, .int .i64 0]), 15, 232) := by kernel_rfl

theorem mstep_wanted {ops : Array Oper} {o : Oper} {a : Act} {w : World} {K : Act → World → Prop} {Q : Exit → Act → World → Prop} {E : Prop}
    (hg : o.guard = none) (h : Oper.wp Tryz.prog o a w K Q) : if Region.wanted o (yielded ops a.tmps) = true then Oper.wp Tryz.prog o a w K Q else E := by
  have hw : Region.wanted o (yielded ops a.tmps) = true := by simp [Region.wanted, hg]
  rw [if_pos hw]
  exact h
set_option maxRecDepth 100000 in
/-- Messages behind a row of one's own: the step. -/
theorem mwp_rows {w : World} {o : Oper} {a : Act} {K : Act → World → Prop} {Q : Exit → Act → World → Prop} (s x : Operand)
    (ho : o.op = .call { callee := .builtin .append, args := #[s, x], argTypes := #[27, 27] })
    (base : Nat) (v : Value) (n : Nat) (xs : List Im) (hs : a.eval s = v) (hown : w.ownsRow base 35 15 v n (mflat xs))
    (u : Value) (l : List Im) (hx : a.eval x = u) (hl : MRow w u l) (h63 : n + l.length ≤ 100000) (hbase : base ≤ w.heap.size)
    (h : ∀ v' w', w'.ownsRow base 35 15 v' (n + l.length) (mflat (xs ++ l)) → w.grownBy w' v.ownBlock → (v'.ownBlock = v.ownBlock ∨ v'.ownBlock = some w.heap.size) → K (a.put o.dst v') w') : o.wp Tryz.prog a w K Q := by
  obtain ⟨i0, hi, hz0, hz1, hz2⟩ : ∃ i : TypeInfo, Tryz.prog.info? 35 = some i ∧ i.zero = some (.agg #[.int .i64 0, .int .i64 0, .int .i64 0, .int .i64 0, .slice none 0 0, .slice none 0 0, .int .i64 0, .slice none 0 0, .slice none 0 0, .slice none 0 0, .slice none 0 0, .slice none 0 0, .int .i64 0, .int .i64 0, .int .i64 0]) ∧ i.size = 15 ∧ i.bytes = 232 := by
    have h := minfoMsg
    cases hi : Tryz.prog.info? 35 with
    | none => rw [hi] at h; simp at h
    | some i =>
      rw [hi] at h
      simp at h
      exact ⟨i, rfl, h.1, h.2.1, h.2.2⟩
  have hok : ∀ t ∈ l, t.ok w := fun t ht => by
    obtain ⟨p, cap, -, -, -, hr⟩ := hl
    obtain ⟨i, hi⟩ := List.mem_iff_getElem?.1 ht
    exact (hr i t hi).2
  obtain ⟨p, cap, rfl, hcap, h0, hc⟩ := hl
  cases p with
  | none =>
    have hl0 : l = [] := by
      cases l with
      | nil => rfl
      | cons y l =>
        obtain ⟨⟨_, _, e, _⟩, _⟩ := hc 0 y rfl
        cases e
    subst hl0
    rw [h0 rfl] at hx
    have hx : a.eval x = .slice none 0 0 := hx
    have hrun := run_append_owned_none (P := Tryz.prog) w base 27 o.type 35 i0 15 Tryz.underlying27 hi v n _ hown
    unfold Oper.wp execOp
    simp only [ho, resolve, invoke, builtin, Sem.run_bind, Sem.run_pure, Result.andThen_ok, List.map_toArray, List.map_cons, List.map_nil, hs, hx, hrun]
    refine h v w ?_ ⟨rfl, rfl, rfl, Nat.le_refl _, fun _ _ _ => rfl⟩ (.inl rfl)
    rw [List.append_nil]
    exact hown
  | some ad =>
    have hcell : ∀ (j : Nat) (u : Value), (mflat l)[j]? = some u → w.cell? (ad.add j) = some u := fun j u hj => by
      have hjl := (List.getElem?_eq_some_iff.1 hj).1
      rw [mflat_len] at hjl
      have hq : j / 15 < l.length := by omega
      obtain ⟨t, ht⟩ : ∃ t, l[j / 15]? = some t := ⟨_, List.getElem?_eq_getElem hq⟩
      obtain ⟨⟨b, off, e, hr⟩, -⟩ := hc (j / 15) t ht
      injection e with e
      subst e
      have hk : j % 15 < t.cells.length := Nat.mod_lt _ (by decide)
      have h1 := mflat_at l (j / 15) (j % 15) t _ ht (List.getElem?_eq_getElem hk)
      have e3 : j / 15 * 15 + j % 15 = j := by omega
      rw [e3, hj] at h1
      injection h1 with h1
      rw [add_plain, show off + j = off + j / 15 * 15 + j % 15 by omega, h1]
      exact hr (j % 15) _ (List.getElem?_eq_getElem hk)
    obtain ⟨v', w', hr, h2, h3, h4, h5⟩ := run_append_own_at (P := Tryz.prog) w base 27 o.type 35 i0 _ 15 232 Tryz.underlying27 hi hz0 hz1 hz2 rfl (by decide) v n _ hown ad l.length cap (mflat l) (by rw [mflat_len]) hcell (mflat_one_cell hok) (by unfold maxLen; omega) (by omega) hbase
    unfold Oper.wp execOp
    simp only [ho, resolve, invoke, builtin, Sem.run_bind, Sem.run_pure, Result.andThen_ok, List.map_toArray, List.map_cons, List.map_nil, hs, hx, hr]
    refine h v' w' ?_ h3 h5
    rw [mflat_app]
    exact h2
theorem mown_empty (w : World) (base : Nat) (h : base ≤ w.heap.size) : (w.alloc (.cells #[] 35)).ownsRow base 35 15 (.slice (some ⟨w.heap.size, 0, none⟩) 0 0) 0 (mflat []) :=
  World.ownsRow_made w _ 0 h (by decide) rfl
/-- A row of one message, in a block of its own. -/
theorem mone_row {wx : World} {t : Im} {k : Nat} (hb : wx.heap[k]? = some (.cells t.cells.toArray 35 (0, 0))) (hk : t.ok wx) : MRow wx (.slice (some ⟨k, 0, none⟩) 1 1) [t] :=
  ⟨some ⟨k, 0, none⟩, 1, rfl, Nat.le_refl _, fun h => (by cases h), fun i s hi => by
    match i, hi with
    | 0, hi =>
      injection hi with hi
      subst hi
      refine ⟨⟨k, 0, rfl, fun j u hj => ?_⟩, hk⟩
      rw [Nat.zero_mul, Nat.zero_add]
      exact tag_cell hb _ _ (by simpa using hj)
    | i + 1, hi => simp at hi⟩
end Go.Proofs.YtmogplecohkjcaaGreatDoor

namespace Go.Proofs.YtmogplecohkjcaaGreatDoor
open Go.RowKit
open Utf1
open Pol8 hiding text right Right
open Msg15 Mail17

/-- The document's box holds these messages, all of which were there in W0. -/
structure RB (W0 w : World) (rb : Nat) (ts : List Im) (p : Option Addr) (c : Nat) : Prop where
  lo : W0.heap.size ≤ rb
  bw : Below W0.heap.size W0 w
  b : w.heap[rb]? = some (.cells #[.slice p ts.length c] 29 (0, 0))
  o : w.ownsRow W0.heap.size 35 15 (.slice p ts.length c) ts.length (mflat ts)
  k : ∀ t ∈ ts, t.ok W0
theorem RB.row {W0 w : World} {rb : Nat} {ts : List Im} {p : Option Addr} {c : Nat} (h : RB W0 w rb ts p c) : MRow w (.slice p ts.length c) ts := OwnM.row ⟨h.o, fun t ht => (h.k t ht).below h.bw⟩
theorem RB.below {W0 w w' : World} {rb : Nat} {ts : List Im} {p : Option Addr} {c : Nat} (h : RB W0 w rb ts p c) (hb : Below w.heap.size w w') : RB W0 w' rb ts p c :=
  ⟨h.lo, bel2 h.bw hb, (hb.block _ (Array.getElem?_eq_some_iff.1 h.b).1).trans h.b, h.o.kept (row := none) (below_grown hb) (Classical.em _), h.k⟩
theorem RB.lt {W0 w : World} {rb : Nat} {ts : List Im} {p : Option Addr} {c : Nat} (h : RB W0 w rb ts p c) : rb < w.heap.size := (Array.getElem?_eq_some_iff.1 h.b).1
/-- The box's blocks. -/
def rblk (rb : Nat) (p : Option Addr) : List Nat := match p with
  | none => [rb]
  | some a => [rb, a.block]
theorem RB.stay {W0 w w' : World} {rb : Nat} {ts : List Im} {p : Option Addr} {c : Nat} (h : RB W0 w rb ts p c) (hw : Below W0.heap.size W0 w') (hb : ∀ k ∈ rblk rb p, w'.heap[k]? = w.heap[k]?) : RB W0 w' rb ts p c := by
  have h1 : w'.heap[rb]? = w.heap[rb]? := hb rb (by unfold rblk; cases p <;> simp)
  refine ⟨h.lo, hw, h1.trans h.b, ?_, h.k⟩
  obtain ⟨g1, h2 | ⟨g, cap, cur, h3, h4, h5, h6⟩⟩ := h.o
  · exact ⟨g1, .inl h2⟩
  · injection h3 with e1 e2 e3
    subst e1
    subst e3
    exact ⟨g1, .inr ⟨g, c, cur, rfl, h4, (hb g (by unfold rblk; simp)).trans h5, h6⟩⟩
theorem RB.blk {W0 w : World} {rb : Nat} {ts : List Im} {p : Option Addr} {c : Nat} (h : RB W0 w rb ts p c) : ∀ k ∈ rblk rb p, W0.heap.size ≤ k ∧ k < w.heap.size := by
  intro k hk
  obtain ⟨g1, h2 | ⟨g, cap, cur, h3, h4, h5, h6⟩⟩ := h.o
  · injection h2.1 with e
    subst e
    rw [List.mem_singleton.1 hk]
    exact ⟨h.lo, h.lt⟩
  · injection h3 with e1 e2 e3
    subst e1
    rcases List.mem_cons.1 hk with rfl | hk
    · exact ⟨h.lo, h.lt⟩
    · rw [List.mem_singleton.1 hk]
      exact ⟨h4, (Array.getElem?_eq_some_iff.1 h5).1⟩
/-- How many there are to each node, as cells. -/
def cntA (ms : List Ms) : Array Value := #[.int .i64 (cnt 0 ms : Nat), .int .i64 (cnt 1 ms : Nat), .int .i64 (cnt 2 ms : Nat), .int .i64 (cnt 3 ms : Nat), .int .i64 (cnt 4 ms : Nat), .int .i64 (cnt 5 ms : Nat)]
theorem cntA_at (ms : List Ms) {X : Nat} (h : X < 6) : (cntA ms)[X]? = some (.int .i64 (cnt (X : Int) ms : Nat)) := by
  rcases (show X = 0 ∨ X = 1 ∨ X = 2 ∨ X = 3 ∨ X = 4 ∨ X = 5 by omega) with rfl | rfl | rfl | rfl | rfl | rfl <;> rfl
theorem cntA_step (ms : List Ms) (m : Ms) {X : Nat} (h : X < 6) (hm : m.to = (X : Int)) : (cntA ms).setIfInBounds X (.int .i64 ((cnt (X : Int) ms : Nat) + 1)) = cntA (ms ++ [m]) := by
  unfold cntA
  simp only [cnt_app, cnt_one, hm]
  rcases (show X = 0 ∨ X = 1 ∨ X = 2 ∨ X = 3 ∨ X = 4 ∨ X = 5 by omega) with rfl | rfl | rfl | rfl | rfl | rfl <;> simp
theorem cell_set {w : World} {b : Nat} {cs : Array Value} {t : TypeId} (h : w.heap[b]? = some (.cells cs t (0, 0))) (j : Nat) (v : Value) : (w.setCell ⟨b, j, none⟩ v).heap[b]? = some (.cells (cs.setIfInBounds j v) t (0, 0)) := by
  simp [World.setCell, Array.getElem?_modify, h]
theorem cell_free {w : World} {b : Nat} {cs : Array Value} {t : TypeId} (h : w.heap[b]? = some (.cells cs t (0, 0))) (i : Nat) : w.frozen? ⟨b, i, none⟩ = false := by
  simp [World.frozen?, h]
theorem set_other {w : World} {k : Nat} {a : Addr} (h : k ≠ a.block) (v : Value) : (w.setCell a v).heap[k]? = w.heap[k]? := Below.heap_setCell _ _ _ _ h

set_option maxRecDepth 100000 in
set_option maxHeartbeats 16000000 in
theorem rmany_any (W0 : World) (rb : Nat) (ts : List Im) (p : Option Addr) (c : Nat) (w : World) (h : RB W0 w rb ts p c) (hf : Fine (ts.map Im.m)) :
    Calls Tryz.prog 21 #[.pointer (some ⟨rb, 0, none⟩)] w fun e w' => e = .returned (.agg (cntA (ts.map Im.m))) ∧ Below w.heap.size w w' := by
  have HR := hide h
  have HF := hide hf
  have hlen := hf.len
  rw [List.length_map] at hlen
  obtain ⟨N, hN⟩ : ∃ N, N = ts.length := ⟨_, rfl⟩
  have HROW : Hid (MRow w (.slice p N c) ts) := hide (by rw [hN]; exact h.row)
  have c0 : Hid (w.cell? ⟨rb, 0, none⟩ = some (.slice p N c)) := hide (by rw [hN]; exact tag_cell h.b 0 _ rfl)
  have hN96 : N ≤ 96 := by omega
  have hrb := h.lt
  have HN := hide hN
  clear h hf hN hlen
  go_enter Tryz.func21, Tryz.ntmps21
  go_wp2_with fail
  have e2 : (w.alloc (.cells #[.int .i64 0, .int .i64 0, .int .i64 0, .int .i64 0, .int .i64 0, .int .i64 0] 47)).heap.size = w.heap.size + 1 := by simp
  go_loopg [4, 5] N (fun g v4 v5 wr => ∃ j : Nat, j + g = N ∧ v4 = .int .i64 (j : Int) ∧ Hid (wr.heap[w.heap.size]? = some (.cells #[.int .i64 0, .int .i64 0, .int .i64 0, .int .i64 0, .int .i64 0, .int .i64 0] 47 (0, 0)) ∧ wr.heap[w.heap.size + 1]? = some (.cells (cntA ((ts.map Im.m).take j)) 47 (0, 0)) ∧ Below w.heap.size w wr))
  case atStart =>
    refine ⟨0, by omega, rfl, hide ⟨?_, ?_, bel_alloc (bel_alloc (Below.refl _ _) _) _⟩⟩
    · rw [Below.heap_alloc _ _ _ (by rw [e2]; omega)]
      exact new_block _ _ _
    · have h := new_block (w.alloc (.cells #[.int .i64 0, .int .i64 0, .int .i64 0, .int .i64 0, .int .i64 0, .int .i64 0] 47)) #[.int .i64 0, .int .i64 0, .int .i64 0, .int .i64 0, .int .i64 0, .int .i64 0] 47
      rw [e2] at h
      exact h
  case round =>
    obtain ⟨j, hj, rfl, HI⟩ := hrel
    have k0 := cell_keep c0.out HI.out.2.2
    by_cases hlt : j < N
    · obtain ⟨t, ht⟩ : ∃ t, ts[j]? = some t := ⟨_, List.getElem?_eq_getElem (by have := HN.out; omega)⟩
      have hjn : (ts.map Im.m)[j]? = some t.m := by rw [List.getElem?_map, ht]; rfl
      obtain ⟨b, off, rfl, hrg, -⟩ := (HROW.out.below HI.out.2.2).at ht
      have y2 := (fifteen hrg).2.2.1
      have hto := (HF.out.r t.m (List.mem_of_getElem? hjn)).to
      obtain ⟨X, hX⟩ : ∃ X : Nat, t.m.to = (X : Int) := ⟨t.m.to.toNat, by omega⟩
      have hX6 : X < 6 := by omega
      rw [hX] at y2
      obtain ⟨K, hK⟩ : ∃ K, K = cnt (X : Int) ((ts.map Im.m).take j) := ⟨_, rfl⟩
      have hK16 : K ≤ 16 := by
        rw [hK]
        exact Nat.le_trans (cnt_sub (List.take_sublist _ _)) (HF.out.c _)
      have y3 : wr.cell? ⟨w.heap.size + 1, X, none⟩ = some (.int .i64 (K : Int)) := by
        rw [hK]
        exact tag_cell HI.out.2.1 X _ (cntA_at _ hX6)
      have y4 : wr.frozen? ⟨w.heap.size + 1, X, none⟩ = false := cell_free HI.out.2.1 X
      have HNX : Hid ((wr.setCell ⟨w.heap.size + 1, X, none⟩ (.int .i64 ((K : Int) + 1))).heap[w.heap.size]? = some (.cells #[.int .i64 0, .int .i64 0, .int .i64 0, .int .i64 0, .int .i64 0, .int .i64 0] 47 (0, 0)) ∧ (wr.setCell ⟨w.heap.size + 1, X, none⟩ (.int .i64 ((K : Int) + 1))).heap[w.heap.size + 1]? = some (.cells (cntA ((ts.map Im.m).take (j + 1))) 47 (0, 0)) ∧ Below w.heap.size w (wr.setCell ⟨w.heap.size + 1, X, none⟩ (.int .i64 ((K : Int) + 1)))) := hide (by
        refine ⟨?_, ?_, HI.out.2.2.setCell (show w.heap.size ≤ w.heap.size + 1 by omega) _⟩
        · rw [set_other (show w.heap.size ≠ w.heap.size + 1 by omega)]
          exact HI.out.1
        · have h := cell_set HI.out.2.1 X (.int .i64 ((K : Int) + 1))
          rw [hK, cntA_step _ t.m hX6 hX] at h
          rw [hK, List.take_add_one, hjn]
          exact h)
      clear ht hjn hrg hto hX hK HI
      go_wp2_with fail
      go_roundg (N - (j + 1))
      case measure => omega
      case rel => exact ⟨j + 1, by omega, by first | rfl | (push_cast; rfl), HNX⟩
    · have hjN : j = N := by omega
      subst hjN
      have HA : Hid (wr.heap[w.heap.size + 1]? = some (.cells (cntA (ts.map Im.m)) 47 (0, 0))) := hide (by
        have h := HI.out.2.1
        rw [List.take_of_length_le (by rw [List.length_map]; have := HN.out; omega)] at h
        exact h)
      obtain ⟨K0, hK0⟩ : ∃ K : Int, K = ((cnt 0 (ts.map Im.m) : Nat) : Int) := ⟨_, rfl⟩
      have z0 : wr.cell? ⟨w.heap.size + 1, 0, none⟩ = some (.int .i64 K0) := by rw [hK0]; exact tag_cell HA.out 0 _ rfl
      obtain ⟨K1, hK1⟩ : ∃ K : Int, K = ((cnt 1 (ts.map Im.m) : Nat) : Int) := ⟨_, rfl⟩
      have z1 : wr.cell? ⟨w.heap.size + 1, 1, none⟩ = some (.int .i64 K1) := by rw [hK1]; exact tag_cell HA.out 1 _ rfl
      obtain ⟨K2, hK2⟩ : ∃ K : Int, K = ((cnt 2 (ts.map Im.m) : Nat) : Int) := ⟨_, rfl⟩
      have z2 : wr.cell? ⟨w.heap.size + 1, 2, none⟩ = some (.int .i64 K2) := by rw [hK2]; exact tag_cell HA.out 2 _ rfl
      obtain ⟨K3, hK3⟩ : ∃ K : Int, K = ((cnt 3 (ts.map Im.m) : Nat) : Int) := ⟨_, rfl⟩
      have z3 : wr.cell? ⟨w.heap.size + 1, 3, none⟩ = some (.int .i64 K3) := by rw [hK3]; exact tag_cell HA.out 3 _ rfl
      obtain ⟨K4, hK4⟩ : ∃ K : Int, K = ((cnt 4 (ts.map Im.m) : Nat) : Int) := ⟨_, rfl⟩
      have z4 : wr.cell? ⟨w.heap.size + 1, 4, none⟩ = some (.int .i64 K4) := by rw [hK4]; exact tag_cell HA.out 4 _ rfl
      obtain ⟨K5, hK5⟩ : ∃ K : Int, K = ((cnt 5 (ts.map Im.m) : Nat) : Int) := ⟨_, rfl⟩
      have z5 : wr.cell? ⟨w.heap.size + 1, 5, none⟩ = some (.int .i64 K5) := by rw [hK5]; exact tag_cell HA.out 5 _ rfl
      have u0 : wr.cell? ⟨w.heap.size, 0, none⟩ = some (.int .i64 0) := tag_cell HI.out.1 0 _ rfl
      have u1 : wr.cell? ⟨w.heap.size, 1, none⟩ = some (.int .i64 0) := tag_cell HI.out.1 1 _ rfl
      have u2 : wr.cell? ⟨w.heap.size, 2, none⟩ = some (.int .i64 0) := tag_cell HI.out.1 2 _ rfl
      have u3 : wr.cell? ⟨w.heap.size, 3, none⟩ = some (.int .i64 0) := tag_cell HI.out.1 3 _ rfl
      have u4 : wr.cell? ⟨w.heap.size, 4, none⟩ = some (.int .i64 0) := tag_cell HI.out.1 4 _ rfl
      have u5 : wr.cell? ⟨w.heap.size, 5, none⟩ = some (.int .i64 0) := tag_cell HI.out.1 5 _ rfl
      have q0 := cell_free HI.out.1 0
      have q1 := cell_free HI.out.1 1
      have q2 := cell_free HI.out.1 2
      have q3 := cell_free HI.out.1 3
      have q4 := cell_free HI.out.1 4
      have q5 := cell_free HI.out.1 5
      have HKA : Hid (cntA (ts.map Im.m) = #[.int .i64 K0, .int .i64 K1, .int .i64 K2, .int .i64 K3, .int .i64 K4, .int .i64 K5]) := hide (by rw [hK0, hK1, hK2, hK3, hK4, hK5]; rfl)
      clear hK0 hK1 hK2 hK3 hK4 hK5
      go_wp2_with fail
      have h0 : (wr.setCell ⟨w.heap.size, 0, none⟩ (.int .i64 K0)).heap[w.heap.size]? = some (.cells #[.int .i64 K0, .int .i64 0, .int .i64 0, .int .i64 0, .int .i64 0, .int .i64 0] 47 (0, 0)) := cell_set HI.out.1 0 _
      have h1 : ((wr.setCell ⟨w.heap.size, 0, none⟩ (.int .i64 K0)).setCell ⟨w.heap.size, 1, none⟩ (.int .i64 K1)).heap[w.heap.size]? = some (.cells #[.int .i64 K0, .int .i64 K1, .int .i64 0, .int .i64 0, .int .i64 0, .int .i64 0] 47 (0, 0)) := cell_set h0 1 _
      have h2 : (((wr.setCell ⟨w.heap.size, 0, none⟩ (.int .i64 K0)).setCell ⟨w.heap.size, 1, none⟩ (.int .i64 K1)).setCell ⟨w.heap.size, 2, none⟩ (.int .i64 K2)).heap[w.heap.size]? = some (.cells #[.int .i64 K0, .int .i64 K1, .int .i64 K2, .int .i64 0, .int .i64 0, .int .i64 0] 47 (0, 0)) := cell_set h1 2 _
      have h3 : ((((wr.setCell ⟨w.heap.size, 0, none⟩ (.int .i64 K0)).setCell ⟨w.heap.size, 1, none⟩ (.int .i64 K1)).setCell ⟨w.heap.size, 2, none⟩ (.int .i64 K2)).setCell ⟨w.heap.size, 3, none⟩ (.int .i64 K3)).heap[w.heap.size]? = some (.cells #[.int .i64 K0, .int .i64 K1, .int .i64 K2, .int .i64 K3, .int .i64 0, .int .i64 0] 47 (0, 0)) := cell_set h2 3 _
      have h4 : (((((wr.setCell ⟨w.heap.size, 0, none⟩ (.int .i64 K0)).setCell ⟨w.heap.size, 1, none⟩ (.int .i64 K1)).setCell ⟨w.heap.size, 2, none⟩ (.int .i64 K2)).setCell ⟨w.heap.size, 3, none⟩ (.int .i64 K3)).setCell ⟨w.heap.size, 4, none⟩ (.int .i64 K4)).heap[w.heap.size]? = some (.cells #[.int .i64 K0, .int .i64 K1, .int .i64 K2, .int .i64 K3, .int .i64 K4, .int .i64 0] 47 (0, 0)) := cell_set h3 4 _
      have h5 : ((((((wr.setCell ⟨w.heap.size, 0, none⟩ (.int .i64 K0)).setCell ⟨w.heap.size, 1, none⟩ (.int .i64 K1)).setCell ⟨w.heap.size, 2, none⟩ (.int .i64 K2)).setCell ⟨w.heap.size, 3, none⟩ (.int .i64 K3)).setCell ⟨w.heap.size, 4, none⟩ (.int .i64 K4)).setCell ⟨w.heap.size, 5, none⟩ (.int .i64 K5)).heap[w.heap.size]? = some (.cells #[.int .i64 K0, .int .i64 K1, .int .i64 K2, .int .i64 K3, .int .i64 K4, .int .i64 K5] 47 (0, 0)) := cell_set h4 5 _
      refine bodyPost_ret (results_cell_row rfl _ _ w.heap.size 47 #[.int .i64 K0, .int .i64 K1, .int .i64 K2, .int .i64 K3, .int .i64 K4, .int .i64 K5] (0, 0) _ rfl h5 Tryz.underlying47 rfl (by kernel_rfl)) rfl ?_
      refine ⟨by rw [HKA.out], ?_⟩
      exact (((((HI.out.2.2.setCell (Nat.le_refl _) _).setCell (Nat.le_refl _) _).setCell (Nat.le_refl _) _).setCell (Nat.le_refl _) _).setCell (Nat.le_refl _) _).setCell (Nat.le_refl _) _
end Go.Proofs.YtmogplecohkjcaaGreatDoor
