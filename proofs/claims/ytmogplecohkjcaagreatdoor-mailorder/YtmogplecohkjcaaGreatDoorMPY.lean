/-
  Package mail: has; one message more; add.
-/
import Derived.Test.YtmogplecohkjcaaGreatDoorMPZ
import Derived.Test.YtmogplecohkjcaaGreatDoorDU
import Derived.Test.YtmogplecohkjcaaGreatDoorDBB
namespace Go.Proofs.YtmogplecohkjcaaGreatDoor
open Go.RowKit
open Utf1
open Pol8 hiding text right Right
open Msg15 Mail17

theorem PBx.ne {w : World} {a : Nat} {ts : List Im} {p : Option Addr} {c : Nat} {G F : List Nat} (h : PBx w a ts p c G F) : (Value.slice p ts.length c).ownBlock ≠ some a := eown_apart h.o h.b (by decide)
theorem keep_in {w w' : World} {F : List Nat} (h : Below w.heap.size w w') : Keep w w' F := ⟨h.os, h.tape, h.output, h.size, fun k hk _ => h.block k hk⟩
/-- One message more, and the row stored. -/
theorem pb_push {w Wc W8 W9 W10 : World} {a : Nat} {ts : List Im} {p q : Option Addr} {c k d : Nat} {G F : List Nat} {t : Im} (h : PBx w a ts p c G F) (hb : Below w.heap.size w W8) (hc : w.heap.size ≤ Wc.heap.size) (hc8 : Wc.heap.size ≤ W8.heap.size)
    (hst : Stay Wc.heap.size (newB Wc W8) W8 t) (hb9 : Below W8.heap.size W8 W9) (hg : W9.grownBy W10 (Value.slice p ts.length c).ownBlock) (ho : W10.ownsRow 0 35 15 (.slice q k d) k (mflat (ts ++ [t]))) (hk : k = ts.length + 1)
    (hq : (Value.slice q k d).ownBlock = (Value.slice p ts.length c).ownBlock ∨ (Value.slice q k d).ownBlock = some W9.heap.size) :
    ∃ G' F', PBx (W10.setCell ⟨a, 0, none⟩ (.slice q k d)) a (ts ++ [t]) q d G' F' ∧ Near w F F' ∧ Keep w (W10.setCell ⟨a, 0, none⟩ (.slice q k d)) F := by
  have hb2 : Below w.heap.size w W9 := bel2 hb hb9
  have hs89 := hb9.size
  have hs08 := hb.size
  have hs910 := hg.size
  have hal : a < w.heap.size := h.lt a h.fa
  have hpl : ∀ x, (Value.slice p ts.length c).ownBlock = some x → x ∈ F ∧ x < w.heap.size ∧ x ∉ G := by
    intro x hx
    cases p with
    | none => cases hx
    | some y =>
      injection hx with hx
      subst hx
      exact ⟨h.fp y rfl, h.lt _ (h.fp y rfl), h.gp y rfl⟩
  have hal10 : a < W10.heap.size := by omega
  have hA10 : W10.heap[a]? = some (.cells #[.slice p ts.length c] 55 (0, 0)) := by
    rw [hg.block a (by omega) (fun e => h.ne e.symm), hb9.block a (by omega), hb.block a hal]
    exact h.b
  have hsz : (W10.setCell ⟨a, 0, none⟩ (.slice q k d)).heap.size = W10.heap.size := by simp [World.setCell]
  have hblk : ∀ x, x ≠ a → some x ≠ (Value.slice p ts.length c).ownBlock → x < W9.heap.size → (W10.setCell ⟨a, 0, none⟩ (.slice q k d)).heap[x]? = W9.heap[x]? := fun x h1 h2 h3 => by
    rw [set_other (show x ≠ (⟨a, 0, none⟩ : Addr).block from h1), hg.block x h3 (fun e => h2 e)]
  have hqb : ∀ y, q = some y → ((y.block ∈ F ∧ y.block < w.heap.size ∧ y.block ∉ G) ∨ y.block = W9.heap.size) ∧ y.block < W10.heap.size := by
    intro y hy
    subst hy
    constructor
    · rcases hq with e | e
      · exact .inl (hpl _ e.symm)
      · injection e with e
        exact .inr e
    · obtain ⟨-, h2 | ⟨g, cap, cur, hv, hB, hgk, hr⟩⟩ := ho
      · cases h2.1
      · injection hv with hv
        injection hv with hv
        rw [hv]
        exact (Array.getElem?_eq_some_iff.1 hgk).1
  have hqa : (Value.slice q k d).ownBlock ≠ some a := by
    intro e
    cases q with
    | none => cases e
    | some y =>
      injection e with e
      have h1 : y.block = a := e
      rcases hq with e2 | e2
      · exact h.ne (e2.symm.trans (by show some y.block = some a; rw [h1]))
      · injection e2 with e2
        have : y.block = W9.heap.size := e2
        omega
  subst hk
  refine ⟨G ++ newB Wc W8, F ++ newB w (W10.setCell ⟨a, 0, none⟩ (.slice q (ts.length + 1) d)), ⟨?_, ?_, ?_, ?_, ?_, ?_, ?_, ?_, ?_⟩, ?_, ?_⟩
  · rw [List.length_append]
    exact cell_set hA10 0 _
  · rw [List.length_append]
    exact ownsRow_setCell_other ho hqa _
  · intro x hx
    rcases List.mem_append.1 hx with hx | hx
    · exact ((h.k x hx).to (fun y hy => by
        have hy1 := h.lt y (h.gf y hy)
        rw [hblk y (fun e => h.ga (e ▸ hy)) (fun e => (hpl y e.symm).2.2 hy) (by omega), hb9.block y (by omega), hb.block y hy1])).more (fun y hy => List.mem_append_left _ hy)
    · rw [List.mem_singleton.1 hx]
      exact ((hst.le (Nat.zero_le _)).to (fun y hy => by
        have hy1 := (mem_newB hc8).1 hy
        rw [hblk y (by omega) (fun e => by have := (hpl y e.symm).2.1; omega) (by omega), hb9.block y hy1.2])).more (fun y hy => List.mem_append_right _ hy)
  · intro hx
    rcases List.mem_append.1 hx with hx | hx
    · exact h.ga hx
    · have := (mem_newB hc8).1 hx
      omega
  · intro y hy hx
    have h1 := (hqb y hy).1
    rcases List.mem_append.1 hx with hx | hx
    · rcases h1 with h1 | h1
      · exact h1.2.2 hx
      · have := h.lt _ (h.gf _ hx)
        omega
    · have h2 := (mem_newB hc8).1 hx
      rcases h1 with h1 | h1 <;> omega
  · intro y hy
    rcases List.mem_append.1 hy with hy | hy
    · exact List.mem_append_left _ (h.gf y hy)
    · have h2 := (mem_newB hc8).1 hy
      exact List.mem_append_right _ ((mem_newB (by rw [hsz]; omega)).2 ⟨by omega, by rw [hsz]; omega⟩)
  · exact List.mem_append_left _ h.fa
  · intro y hy
    have h1 := hqb y hy
    rcases h1.1 with h2 | h2
    · exact List.mem_append_left _ h2.1
    · exact List.mem_append_right _ ((mem_newB (by rw [hsz]; omega)).2 ⟨by omega, by rw [hsz]; exact h1.2⟩)
  · intro y hy
    rw [hsz]
    rcases List.mem_append.1 hy with hy | hy
    · have := h.lt y hy
      omega
    · have := ((mem_newB (by rw [hsz]; omega)).1 hy).2
      rw [hsz] at this
      exact this
  · intro y hy
    rcases List.mem_append.1 hy with hy | hy
    · exact .inl hy
    · exact .inr ((mem_newB (by rw [hsz]; omega)).1 hy).1
  · refine ⟨?_, ?_, ?_, by rw [hsz]; omega, fun y hy hF => ?_⟩
    · exact hg.os.trans hb2.os
    · exact hg.tape.trans hb2.tape
    · exact hg.output.trans hb2.output
    · rw [hblk y (fun e => hF (e ▸ h.fa)) (fun e => hF (hpl y e.symm).1) (by omega), hb9.block y (by omega), hb.block y hy]

set_option maxRecDepth 100000 in
set_option maxHeartbeats 4000000 in
theorem phas_any (w : World) (a : Nat) (ts : List Im) (p : Option Addr) (c : Nat) (G F : List Nat) (n : Int) (h : PBx w a ts p c G F) :
    Calls Tryz.prog 27 #[.pointer (some ⟨a, 0, none⟩), .int .i64 n] w fun e w' => e = .returned (.bool (decide (0 ≤ n ∧ n < (ts.length : Int)))) ∧ Below w.heap.size w w' := by
  have c0 : w.cell? ⟨a, 0, none⟩ = some (.slice p ts.length c) := tag_cell h.b 0 _ rfl
  clear h
  by_cases h0 : 0 ≤ n
  · have d0 : decide (0 ≤ n) = true := decide_eq_true h0
    have e0 : decide (0 ≤ n ∧ n < (ts.length : Int)) = decide (n < (ts.length : Int)) := by simp [h0]
    rw [e0]
    go_enter Tryz.func27, Tryz.ntmps27
    go_wp2_with fail
    go_ret
    exact ⟨rfl, Below.refl _ _⟩
  · have d0 : decide (0 ≤ n) = false := decide_eq_false h0
    have e0 : decide (0 ≤ n ∧ n < (ts.length : Int)) = false := decide_eq_false (fun h => h0 h.1)
    rw [e0]
    go_enter Tryz.func27, Tryz.ntmps27
    go_wp2_with fail
    go_ret
    exact ⟨rfl, Below.refl _ _⟩
end Go.Proofs.YtmogplecohkjcaaGreatDoor

namespace Go.Proofs.YtmogplecohkjcaaGreatDoor
open Go.RowKit
open Utf1
open Pol8 hiding text right Right
open Msg15 Mail17

theorem six_ne (a0 a1 a2 a3 a4 a5 b0 b1 b2 b3 b4 b5 : Int) (w : World) :
    (binOp .neq 47 (.agg #[.int .i64 a0, .int .i64 a1, .int .i64 a2, .int .i64 a3, .int .i64 a4, .int .i64 a5]) (.agg #[.int .i64 b0, .int .i64 b1, .int .i64 b2, .int .i64 b3, .int .i64 b4, .int .i64 b5])).run Tryz.prog w = .ok (.bool (!decide (a0 = b0 ∧ a1 = b1 ∧ a2 = b2 ∧ a3 = b3 ∧ a4 = b4 ∧ a5 = b5))) w := by
  have h := six_eql a0 a1 a2 a3 a4 a5 b0 b1 b2 b3 b4 b5 w
  rw [run_eql_struct] at h
  rw [run_neq_struct]
  generalize decide (a0 = b0 ∧ a1 = b1 ∧ a2 = b2 ∧ a3 = b3 ∧ a4 = b4 ∧ a5 = b5) = D at h ⊢
  cases hr : (Op.equalIn 10000 47 (.agg #[.int .i64 a0, .int .i64 a1, .int .i64 a2, .int .i64 a3, .int .i64 a4, .int .i64 a5]) (.agg #[.int .i64 b0, .int .i64 b1, .int .i64 b2, .int .i64 b3, .int .i64 b4, .int .i64 b5])).run Tryz.prog w with
  | ok b w' =>
    rw [hr] at h
    simp [Result.andThen] at h
    obtain ⟨h1, h2⟩ := h
    subst h1 h2
    rfl
  | _ => rw [hr] at h; simp [Result.andThen] at h
/-- What a call leaves that changes a box. -/
def PPut (w : World) (v : Value) (F : List Nat) (R : Int → List Ms → Prop) (e : Ending) (w' : World) : Prop := (∃ c ms' F', e = .returned (.int .i64 c) ∧ R c ms' ∧ PBox w' v ms' F' ∧ Near w F F') ∧ Keep w w' F
theorem cnt_fine {ms : List Ms} {m : Ms} (hf : Fine ms) (h : cnt m.to ms < 16) (t : Int) : cnt t (ms ++ [m]) ≤ 16 := by
  rw [cnt_app, cnt_one]
  have := hf.c t
  by_cases e : m.to = t
  · rw [if_pos e, ← e]
    omega
  · rw [if_neg e]
    omega
theorem cnt_over {ms : List Ms} {m : Ms} (h : 16 ≤ cnt m.to ms) : ¬ cnt m.to (ms ++ [m]) ≤ 16 := by
  rw [cnt_app, cnt_one, if_pos rfl]
  omega
theorem min_fix (K : Int) : (K = min K 16) ↔ K ≤ 16 := by omega

theorem capped_six (K0 K1 K2 K3 K4 K5 : Int) (h : (-1000 ≤ K0 ∧ K0 ≤ 1000) ∧ (-1000 ≤ K1 ∧ K1 ≤ 1000) ∧ (-1000 ≤ K2 ∧ K2 ≤ 1000) ∧ (-1000 ≤ K3 ∧ K3 ≤ 1000) ∧ (-1000 ≤ K4 ∧ K4 ≤ 1000) ∧ (-1000 ≤ K5 ∧ K5 ≤ 1000)) (w : World) :
    Calls Tryz.prog 39 #[.agg #[.int .i64 K0, .int .i64 K1, .int .i64 K2, .int .i64 K3, .int .i64 K4, .int .i64 K5]] w fun e w' => e = .returned (.agg #[.int .i64 (min K0 16), .int .i64 (min K1 16), .int .i64 (min K2 16), .int .i64 (min K3 16), .int .i64 (min K4 16), .int .i64 (min K5 16)]) ∧ Below w.heap.size w w' :=
  pcapped_any (fun i => match i with | 0 => K0 | 1 => K1 | 2 => K2 | 3 => K3 | 4 => K4 | 5 => K5 | _ => 0) (fun i => by
    obtain ⟨h0, h1, h2, h3, h4, h5⟩ := h
    match i with
    | 0 => exact h0
    | 1 => exact h1
    | 2 => exact h2
    | 3 => exact h3
    | 4 => exact h4
    | 5 => exact h5
    | i + 6 => exact ⟨by show (-1000 : Int) ≤ 0; decide, by show (0 : Int) ≤ 1000; decide⟩) w

set_option maxRecDepth 100000 in
set_option maxHeartbeats 32000000 in
theorem padd_any (w : World) (a : Nat) (ts : List Im) (p : Option Addr) (c : Nat) (G F : List Nat) (t : Im) (hg : GlobM w) (h : PBx w a ts p c G F) (hf : Fine (ts.map Im.m)) (ht : t.ok w) (hr : MRight t.m) (hs : Sml t.m) :
    Calls Tryz.prog 26 #[.pointer (some ⟨a, 0, none⟩), t.val] w fun e w' => PPut w (.pointer (some ⟨a, 0, none⟩)) F (PutR (ts.map Im.m) t.m) e w' := by
  have HG := hide hg
  have HP := hide h
  have HF := hide hf
  have HT := hide ht
  have HR := hide hr
  have HS := hide hs
  have hone := im_one ht
  obtain ⟨w1, hw1⟩ : ∃ w1, w1 = w.alloc (.cells #[.int .i64 t.m.kind, .int .i64 t.m.fr, .int .i64 t.m.to, .int .i64 t.m.ep, t.vi, t.vp, .int .i64 t.m.pol.ep, t.v1, t.v2, t.v3, t.v4, t.v5, .int .i64 t.m.pol.dp, .int .i64 t.m.pol.nd, .int .i64 t.m.pol.bt] 35) := ⟨_, rfl⟩
  have B1 : Hid (Below w.heap.size w w1) := hide (by rw [hw1]; exact bel_alloc (Below.refl _ _) _)
  have T1 : Hid (w1.heap[w.heap.size]? = some (.cells t.cells.toArray 35 (0, 0))) := hide (by rw [hw1]; exact new_block _ _ _)
  obtain ⟨X, hX⟩ : ∃ X : Nat, t.m.to = (X : Int) := ⟨t.m.to.toNat, by have := hr.to; omega⟩
  have hX6 : X < 6 := by have := hr.to; omega
  have CM := hide (pmany_any w1 a ts p c G F (HG.out.below B1.out).1 (h.below B1.out) hf)
  have HX := hide hX
  clear hg h hf ht hr hs hX
  go_enter Tryz.func26, Tryz.ntmps26
  go_upto_region 1 with fail
  rw [← hw1]
  clear hw1
  go_wp2_with fail
  rename_i kk
  refine CM.out.mono ?_
  rintro e w2 ⟨rfl, hb2⟩
  have B2 : Hid (Below w.heap.size w w2) := hide (bel2 B1.out hb2)
  have T2 : Hid (w2.heap[w.heap.size]? = some (.cells t.cells.toArray 35 (0, 0))) := hide ((hb2.block _ (Array.getElem?_eq_some_iff.1 T1.out).1).trans T1.out)
  clear hb2 CM B1 T1
  refine kk _ _ ?_
  clear kk
  go_step
  rename_i kk
  go_simp
  refine kk _ _ ?_
  clear kk
  refine wpList_store_row rfl 47 _ _ rfl w2.heap.size (cntA (ts.map Im.m)) rfl rfl 47 _ (new_block _ _ _) (cntA_size _) rfl (cntA_one _) ?_
  rw [World.setRow_alloc_new]
  obtain ⟨Q, hQ⟩ : ∃ Q, Q = w2.heap.size := ⟨_, rfl⟩
  obtain ⟨w3, hw3⟩ : ∃ w3, w3 = w2.alloc (.cells (cntA (ts.map Im.m)) 47) := ⟨_, rfl⟩
  have hlt2 := (Array.getElem?_eq_some_iff.1 T2.out).1
  have HQ : Hid (w.heap.size < Q) := hide (by rw [hQ]; exact hlt2)
  have B3 : Hid (Below w.heap.size w w3) := hide (by rw [hw3]; exact bel_alloc B2.out _)
  have T3 : Hid (w3.heap[w.heap.size]? = some (.cells t.cells.toArray 35 (0, 0))) := hide (by
    rw [hw3, Below.heap_alloc _ _ _ hlt2]
    exact T2.out)
  have A3 : Hid (w3.heap[Q]? = some (.cells (cntA (ts.map Im.m)) 47 (0, 0))) := hide (by
    rw [hw3, hQ]
    exact new_block _ _ _)
  rw [← hw3, ← hQ]
  clear hw3 hQ hlt2 B2 T2
  obtain ⟨K, hK⟩ : ∃ K, K = cnt (X : Int) (ts.map Im.m) := ⟨_, rfl⟩
  have hK16 : K ≤ 16 := by rw [hK]; exact HF.out.c _
  have y2 : w3.cell? ⟨w.heap.size, 2, none⟩ = some (.int .i64 (X : Int)) := by
    rw [← HX.out]
    exact tag_cell T3.out 2 _ rfl
  have y3 : w3.cell? ⟨Q, X, none⟩ = some (.int .i64 (K : Int)) := by
    rw [hK]
    exact tag_cell A3.out X _ (cntA_at _ hX6)
  have y4 : w3.frozen? ⟨Q, X, none⟩ = false := cell_free A3.out X
  obtain ⟨w4, hw4⟩ : ∃ w4, w4 = w3.setCell ⟨Q, X, none⟩ (.int .i64 ((K : Int) + 1)) := ⟨_, rfl⟩
  obtain ⟨K0, hK0⟩ : ∃ K : Int, K = ((cnt 0 (ts.map Im.m ++ [t.m]) : Nat) : Int) := ⟨_, rfl⟩
  obtain ⟨K1, hK1⟩ : ∃ K : Int, K = ((cnt 1 (ts.map Im.m ++ [t.m]) : Nat) : Int) := ⟨_, rfl⟩
  obtain ⟨K2, hK2⟩ : ∃ K : Int, K = ((cnt 2 (ts.map Im.m ++ [t.m]) : Nat) : Int) := ⟨_, rfl⟩
  obtain ⟨K3, hK3⟩ : ∃ K : Int, K = ((cnt 3 (ts.map Im.m ++ [t.m]) : Nat) : Int) := ⟨_, rfl⟩
  obtain ⟨K4, hK4⟩ : ∃ K : Int, K = ((cnt 4 (ts.map Im.m ++ [t.m]) : Nat) : Int) := ⟨_, rfl⟩
  obtain ⟨K5, hK5⟩ : ∃ K : Int, K = ((cnt 5 (ts.map Im.m ++ [t.m]) : Nat) : Int) := ⟨_, rfl⟩
  have A4 : Hid (w4.heap[Q]? = some (.cells #[.int .i64 K0, .int .i64 K1, .int .i64 K2, .int .i64 K3, .int .i64 K4, .int .i64 K5] 47 (0, 0))) := hide (by
    have h := cell_set A3.out X (.int .i64 ((K : Int) + 1))
    rw [hK, cntA_step _ t.m hX6 HX.out] at h
    rw [hw4, hK, h, hK0, hK1, hK2, hK3, hK4, hK5]
    rfl)
  have T4 : Hid (w4.heap[w.heap.size]? = some (.cells t.cells.toArray 35 (0, 0))) := hide (by
    have := HQ.out
    rw [hw4, set_other (show w.heap.size ≠ Q by omega)]
    exact T3.out)
  have B4 : Hid (Below w.heap.size w w4) := hide (by rw [hw4]; exact B3.out.setCell (show w.heap.size ≤ Q from Nat.le_of_lt HQ.out) _)
  have HKK : Hid ((K < 16 → K0 ≤ 16 ∧ K1 ≤ 16 ∧ K2 ≤ 16 ∧ K3 ≤ 16 ∧ K4 ≤ 16 ∧ K5 ≤ 16) ∧ (16 ≤ K → ¬ (K0 ≤ 16 ∧ K1 ≤ 16 ∧ K2 ≤ 16 ∧ K3 ≤ 16 ∧ K4 ≤ 16 ∧ K5 ≤ 16))) := hide (by
    constructor
    · intro hk
      have h := cnt_fine HF.out (m := t.m) (by rw [HX.out, ← hK]; exact hk)
      have h0 := h 0
      have h1 := h 1
      have h2 := h 2
      have h3 := h 3
      have h4 := h 4
      have h5 := h 5
      omega
    · intro hk ⟨h0, h1, h2, h3, h4, h5⟩
      have h := cnt_over (ms := ts.map Im.m) (m := t.m) (by rw [HX.out, ← hK]; exact hk)
      rw [HX.out] at h
      rcases (show X = 0 ∨ X = 1 ∨ X = 2 ∨ X = 3 ∨ X = 4 ∨ X = 5 by omega) with e | e | e | e | e | e <;> subst e <;> push_cast at h <;> exact h (by omega))
  have HKB : Hid ((-1000 ≤ K0 ∧ K0 ≤ 1000) ∧ (-1000 ≤ K1 ∧ K1 ≤ 1000) ∧ (-1000 ≤ K2 ∧ K2 ≤ 1000) ∧ (-1000 ≤ K3 ∧ K3 ≤ 1000) ∧ (-1000 ≤ K4 ∧ K4 ≤ 1000) ∧ (-1000 ≤ K5 ∧ K5 ≤ 1000)) := hide (by
    have h : ∀ u : Int, cnt u (ts.map Im.m ++ [t.m]) ≤ 17 := fun u => by
      rw [cnt_app, cnt_one]
      have := HF.out.c u
      split <;> omega
    have h0 := h 0
    have h1 := h 1
    have h2 := h 2
    have h3 := h 3
    have h4 := h 4
    have h5 := h 5
    omega)
  have HK := hide hK
  clear hK hK0 hK1 hK2 hK3 hK4 hK5
  go_upto_region 3 with fail
  rw [← hw4]
  clear hw4 y2 y3 y4 A3 T3 B3
  have SK3 : Hid (∀ wx : World, wx.heap[Q]? = w4.heap[Q]? → wx.cell? ⟨Q, 0, none⟩ = some (.int .i64 K0) ∧ wx.cell? ⟨Q, 1, none⟩ = some (.int .i64 K1) ∧ wx.cell? ⟨Q, 2, none⟩ = some (.int .i64 K2) ∧ wx.cell? ⟨Q, 3, none⟩ = some (.int .i64 K3) ∧ wx.cell? ⟨Q, 4, none⟩ = some (.int .i64 K4) ∧ wx.cell? ⟨Q, 5, none⟩ = some (.int .i64 K5)) := hide (fun wx h => by
    have h' := h.trans A4.out
    exact ⟨tag_cell h' 0 _ rfl, tag_cell h' 1 _ rfl, tag_cell h' 2 _ rfl, tag_cell h' 3 _ rfl, tag_cell h' 4 _ rfl, tag_cell h' 5 _ rfl⟩)
  refine wp_region_held_drew (S := (fun wx => wx.cell? ⟨Q, 0, none⟩ = some (.int .i64 K0) ∧ wx.cell? ⟨Q, 1, none⟩ = some (.int .i64 K1) ∧ wx.cell? ⟨Q, 2, none⟩ = some (.int .i64 K2) ∧ wx.cell? ⟨Q, 3, none⟩ = some (.int .i64 K3) ∧ wx.cell? ⟨Q, 4, none⟩ = some (.int .i64 K4) ∧ wx.cell? ⟨Q, 5, none⟩ = some (.int .i64 K5))) (by kernel_rfl) (SK3.out _ rfl) (fun hHeld => ?_)
  refine wpAnyH_at (i := 0) (v := ?vc0) (a1 := ?xc0) rfl (by kernel_rfl) (by kernel_rfl) (by kernel_rfl) (fun _ _ _ h => h) (Or.inl ⟨by rfl, ?yc0⟩) (by assumption) ?hc0 ?zc0
  case yc0 => (intro w hSw; (try dsimp only at hSw); go_simp; try (with_reducible rfl))
  case hc0 => (go_simp; exact rfl)
  case zc0 =>
  refine wpAnyH_at (i := 1) (v := ?vc1) (a1 := ?xc1) rfl (by kernel_rfl) (by kernel_rfl) (by kernel_rfl) (fun _ _ _ h => h) (Or.inl ⟨by rfl, ?yc1⟩) (by assumption) ?hc1 ?zc1
  case yc1 => (intro w hSw; (try dsimp only at hSw); go_simp; try (with_reducible rfl))
  case hc1 => (go_simp; exact rfl)
  case zc1 =>
  refine wpAnyH_ready (rs := [2]) (by kernel_rfl) (by simp) ?_
  refine AllReadyH.cons rfl (fun J hJ => ?_) AllReadyH.nil
  go_simp
  refine (capped_six K0 K1 K2 K3 K4 K5 HKB.out w4.drew).mono ?_
  rintro e w5 ⟨rfl, hb5⟩
  have hb45 : Below w4.heap.size w4 w5 := (Below.refl _ _).drew.trans hb5
  have A5 : Hid (w5.heap[Q]? = w4.heap[Q]?) := hide (hb45.block _ (Array.getElem?_eq_some_iff.1 A4.out).1)
  have T5 : Hid (w5.heap[w.heap.size]? = some (.cells t.cells.toArray 35 (0, 0))) := hide ((hb45.block _ (Array.getElem?_eq_some_iff.1 T4.out).1).trans T4.out)
  have B5 : Hid (Below w.heap.size w w5) := hide (bel2 B4.out hb45)
  clear hb5 hb45
  try go_wp2_with fail
  refine hJ.out _ _ (SK3.out _ A5.out) (fun hHeld2 => ?_)
  clear hJ J hHeld
  have hHeld := hHeld2
  clear hHeld2
  have hne := six_ne K0 K1 K2 K3 K4 K5 (min K0 16) (min K1 16) (min K2 16) (min K3 16) (min K4 16) (min K5 16)
  simp only [min_fix] at hne
  by_cases hk : K < 16
  · have hkk := HKK.out.1 hk
    rw [decide_eq_true hkk] at hne
    simp only [Bool.not_true] at hne
    refine wpAnyH_ready (rs := [3]) (by kernel_rfl) (by simp) ?_
    refine AllReadyH.cons rfl (fun J hJ => ?_) AllReadyH.nil
    go_simp
    try go_wp2_with fail
    refine hJ.out _ _ (SK3.out _ A5.out) (fun hHeld2 => ?_)
    clear hJ J hHeld hHeld2 hne hkk HKK HKB
    refine wpAnyH_done (by kernel_rfl) ?_ _
    go_wp2_with fail
    have HA5 : Hid (a < w5.heap.size) := hide (Array.getElem?_eq_some_iff.1 (HP.out.below B5.out).b).1
    have HT5 : Hid (w.heap.size < w5.heap.size) := hide (Array.getElem?_eq_some_iff.1 T5.out).1
    have LT : Hid (ts.length ≤ 96) := hide (by have := HF.out.len; rwa [List.length_map] at this)
    have T5A := T5
    have SK : Hid (∀ wx : World, wx.heap[a]? = w5.heap[a]? → wx.heap[w.heap.size]? = w5.heap[w.heap.size]? → wx.cell? ⟨a, 0, none⟩ = some (.slice p ts.length c) ∧ wx.frozen? ⟨a, 0, none⟩ = false ∧ wx.cell? ⟨w.heap.size, 0, none⟩ = some (.int .i64 t.m.kind) ∧ wx.cell? ⟨w.heap.size, 1, none⟩ = some (.int .i64 t.m.fr) ∧ wx.cell? ⟨w.heap.size, 2, none⟩ = some (.int .i64 t.m.to) ∧ wx.cell? ⟨w.heap.size, 3, none⟩ = some (.int .i64 t.m.ep) ∧ wx.cell? ⟨w.heap.size, 4, none⟩ = some (t.vi) ∧ wx.cell? ⟨w.heap.size, 5, none⟩ = some (t.vp) ∧ wx.cell? ⟨w.heap.size, 6, none⟩ = some (.int .i64 t.m.pol.ep) ∧ wx.cell? ⟨w.heap.size, 7, none⟩ = some (t.v1) ∧ wx.cell? ⟨w.heap.size, 8, none⟩ = some (t.v2) ∧ wx.cell? ⟨w.heap.size, 9, none⟩ = some (t.v3) ∧ wx.cell? ⟨w.heap.size, 10, none⟩ = some (t.v4) ∧ wx.cell? ⟨w.heap.size, 11, none⟩ = some (t.v5) ∧ wx.cell? ⟨w.heap.size, 12, none⟩ = some (.int .i64 t.m.pol.dp) ∧ wx.cell? ⟨w.heap.size, 13, none⟩ = some (.int .i64 t.m.pol.nd) ∧ wx.cell? ⟨w.heap.size, 14, none⟩ = some (.int .i64 t.m.pol.bt)) := hide (fun wx ha hb => by
      have h1 := ha.trans (HP.out.below B5.out).b
      have h' := hb.trans T5.out
      exact ⟨tag_cell h1 0 _ rfl, cell_free h1 0, tag_cell h' 0 _ rfl, tag_cell h' 1 _ rfl, tag_cell h' 2 _ rfl, tag_cell h' 3 _ rfl, tag_cell h' 4 _ rfl, tag_cell h' 5 _ rfl, tag_cell h' 6 _ rfl, tag_cell h' 7 _ rfl, tag_cell h' 8 _ rfl, tag_cell h' 9 _ rfl, tag_cell h' 10 _ rfl, tag_cell h' 11 _ rfl, tag_cell h' 12 _ rfl, tag_cell h' 13 _ rfl, tag_cell h' 14 _ rfl⟩)
    refine wp_region_until (m := 11) (S := (fun wx => wx.cell? ⟨a, 0, none⟩ = some (.slice p ts.length c) ∧ wx.frozen? ⟨a, 0, none⟩ = false ∧ wx.cell? ⟨w.heap.size, 0, none⟩ = some (.int .i64 t.m.kind) ∧ wx.cell? ⟨w.heap.size, 1, none⟩ = some (.int .i64 t.m.fr) ∧ wx.cell? ⟨w.heap.size, 2, none⟩ = some (.int .i64 t.m.to) ∧ wx.cell? ⟨w.heap.size, 3, none⟩ = some (.int .i64 t.m.ep) ∧ wx.cell? ⟨w.heap.size, 4, none⟩ = some (t.vi) ∧ wx.cell? ⟨w.heap.size, 5, none⟩ = some (t.vp) ∧ wx.cell? ⟨w.heap.size, 6, none⟩ = some (.int .i64 t.m.pol.ep) ∧ wx.cell? ⟨w.heap.size, 7, none⟩ = some (t.v1) ∧ wx.cell? ⟨w.heap.size, 8, none⟩ = some (t.v2) ∧ wx.cell? ⟨w.heap.size, 9, none⟩ = some (t.v3) ∧ wx.cell? ⟨w.heap.size, 10, none⟩ = some (t.v4) ∧ wx.cell? ⟨w.heap.size, 11, none⟩ = some (t.v5) ∧ wx.cell? ⟨w.heap.size, 12, none⟩ = some (.int .i64 t.m.pol.dp) ∧ wx.cell? ⟨w.heap.size, 13, none⟩ = some (.int .i64 t.m.pol.nd) ∧ wx.cell? ⟨w.heap.size, 14, none⟩ = some (.int .i64 t.m.pol.bt))) (by kernel_rfl) (SK.out _ rfl rfl) (fun hHeld => ?_)
    obtain ⟨wd, hwd⟩ : ∃ z, z = w5.drew := ⟨_, rfl⟩
    have BE : Hid (Below w5.heap.size w5 wd) := hide (by rw [hwd]; exact (Below.refl _ _).drew)
    rw [← hwd] at hHeld ⊢
    clear hwd
    refine wpU_at (i := 0) (v := ?va0) (a1 := ?xa0) rfl (by kernel_rfl) (by kernel_rfl) (by kernel_rfl) (by kernel_rfl) (fun _ _ _ h => h) (Or.inl ⟨by rfl, ?ya0⟩) (by assumption) ?ha0 ?za0
    case ya0 => (intro w hSw; (try dsimp only at hSw); go_simp; try (with_reducible rfl))
    case ha0 => (go_simp; exact rfl)
    case za0 =>
    refine wpU_at (i := 1) (v := ?va1) (a1 := ?xa1) rfl (by kernel_rfl) (by kernel_rfl) (by kernel_rfl) (by kernel_rfl) (fun _ _ _ h => h) (Or.inl ⟨by rfl, ?ya1⟩) (by assumption) ?ha1 ?za1
    case ya1 => (intro w hSw; (try dsimp only at hSw); go_simp; try (with_reducible rfl))
    case ha1 => (go_simp; exact rfl)
    case za1 =>
    refine wpU_at (i := 2) (v := ?va2) (a1 := ?xa2) rfl (by kernel_rfl) (by kernel_rfl) (by kernel_rfl) (by kernel_rfl) (fun _ _ _ h => h) (Or.inl ⟨by rfl, ?ya2⟩) (by assumption) ?ha2 ?za2
    case ya2 => (intro w hSw; (try dsimp only at hSw); go_simp; try (with_reducible rfl))
    case ha2 => (go_simp; exact rfl)
    case za2 =>
    refine wpU_at (i := 3) (v := ?va3) (a1 := ?xa3) rfl (by kernel_rfl) (by kernel_rfl) (by kernel_rfl) (by kernel_rfl) (fun _ _ _ h => h) (Or.inl ⟨by rfl, ?ya3⟩) (by assumption) ?ha3 ?za3
    case ya3 => (intro w hSw; (try dsimp only at hSw); go_simp; try (with_reducible rfl))
    case ha3 => (go_simp; exact rfl)
    case za3 =>
    refine wpU_at (i := 4) (v := ?va4) (a1 := ?xa4) rfl (by kernel_rfl) (by kernel_rfl) (by kernel_rfl) (by kernel_rfl) (fun _ _ _ h => h) (Or.inl ⟨by rfl, ?ya4⟩) (by assumption) ?ha4 ?za4
    case ya4 => (intro w hSw; (try dsimp only at hSw); go_simp; try (with_reducible rfl))
    case ha4 => (go_simp; exact rfl)
    case za4 =>
    refine wpU_at (i := 5) (v := ?va5) (a1 := ?xa5) rfl (by kernel_rfl) (by kernel_rfl) (by kernel_rfl) (by kernel_rfl) (fun _ _ _ h => h) (Or.inl ⟨by rfl, ?ya5⟩) (by assumption) ?ha5 ?za5
    case ya5 => (intro w hSw; (try dsimp only at hSw); go_simp; try (with_reducible rfl))
    case ha5 => (go_simp; exact rfl)
    case za5 =>
    have BD : Hid (Below w.heap.size w wd) := hide (bel2 B5.out BE.out)
    refine wpU_ready (rs := [6]) (by kernel_rfl) (by simp) ?_
    refine AllU.cons (by decide) rfl (fun J hJ => ?_) AllU.nil
    go_simp
    refine (mown_any t wd (HG.out.below BD.out) (HT.out.below BD.out) HR.out HS.out).mono ?_
    rintro e w8 ⟨⟨t', rfl, hm', hst⟩, hb8⟩
    have HM' := hide hm'
    have HST := hide hst
    have B8 : Hid (Below wd.heap.size wd w8) := hide hb8
    have B58 : Hid (Below w5.heap.size w5 w8) := hide (bel2 BE.out hb8)
    clear hm' hst hb8
    try go_wp2_with fail
    refine hJ.out _ _ (SK.out _ (B58.out.block _ HA5.out) (B58.out.block _ HT5.out)) (fun hHeld2 => ?_)
    clear hJ J hHeld
    have hHeld := hHeld2
    clear hHeld2
    refine wpU_ready (rs := [7]) (by kernel_rfl) (by simp) ?_
    refine AllU.cons (by decide) rfl (fun J hJ => ?_) AllU.nil
    go_simp
    try go_wp2_with fail
    obtain ⟨w9, hw9⟩ : ∃ z, z = w8.alloc (.cells #[.int .i64 t'.m.kind, .int .i64 t'.m.fr, .int .i64 t'.m.to, .int .i64 t'.m.ep, t'.vi, t'.vp, .int .i64 t'.m.pol.ep, t'.v1, t'.v2, t'.v3, t'.v4, t'.v5, .int .i64 t'.m.pol.dp, .int .i64 t'.m.pol.nd, .int .i64 t'.m.pol.bt] 35) := ⟨_, rfl⟩
    have B89 : Hid (Below w8.heap.size w8 w9) := hide (by rw [hw9]; exact bel_alloc (Below.refl _ _) _)
    have B59 : Hid (Below w5.heap.size w5 w9) := hide (bel2 B58.out B89.out)
    have X9 : Hid (w9.heap[w8.heap.size]? = some (.cells t'.cells.toArray 35 (0, 0))) := hide (by rw [hw9]; exact new_block _ _ _)
    have O9 : Hid (w9.ownsRow 0 35 15 (.slice p ts.length c) ts.length (mflat ts)) := hide ((HP.out.below (bel2 B5.out B59.out)).o)
    have R9 : Hid (MRow w9 (.slice (some ⟨w8.heap.size, 0, none⟩) 1 1) [t']) := hide (mone_row X9.out ((HST.out.ok (HG.out.below (bel2 BD.out B8.out)).1).below B89.out))
    rw [← hw9]
    clear hw9 X9
    refine hJ.out _ _ (SK.out _ (B59.out.block _ HA5.out) (B59.out.block _ HT5.out)) (fun hHeld2 => ?_)
    clear hJ J hHeld
    have hHeld := hHeld2
    clear hHeld2
    refine wpU_ready (rs := [8]) (by kernel_rfl) (by simp) ?_
    refine AllU.cons (by decide) rfl (fun J hJ => ?_) AllU.nil
    refine mstep_wanted rfl (mwp_rows _ _ rfl 0 (.slice p ts.length c) ts.length ts rfl O9.out (.slice (some ⟨w8.heap.size, 0, none⟩) 1 1) [t'] rfl R9.out (by have := LT.out; simp only [List.length_cons, List.length_nil]; omega) (Nat.zero_le _) ?_)
    intro v' wz ho hg hf
    obtain ⟨nn, hnn⟩ : ∃ z, z = ts.length + ([t'] : List Im).length := ⟨_, rfl⟩
    rw [← hnn] at ho
    obtain ⟨q, d, rfl, -⟩ := own_shape ho
    have HO := hide ho
    have HGR := hide hg
    have HFQ := hide hf
    have HNN : Hid (nn = ts.length + 1) := hide hnn
    have HAz : Hid (wz.heap[a]? = w5.heap[a]? ∧ wz.heap[w.heap.size]? = w5.heap[w.heap.size]?) := hide (by
      have hA5 := HA5.out
      have hT5 := HT5.out
      have hs := B59.out.size
      refine ⟨(hg.block a (by omega) (fun e => HP.out.ne e.symm)).trans (B59.out.block _ hA5), (hg.block _ (by omega) (fun e => ?_)).trans (B59.out.block _ hT5)⟩
      have h2 := HP.out
      cases p with
      | none => cases e
      | some y =>
        injection e with e
        have h3 := h2.lt _ (h2.fp y rfl)
        have h4 : w.heap.size = y.block := e
        omega)
    clear ho hg hf hnn
    try go_simp
    try go_wp2_with fail
    refine hJ.out _ _ (SK.out _ HAz.out.1 HAz.out.2) (fun hHeld2 => ?_)
    clear hJ J hHeld
    have hHeld := hHeld2
    clear hHeld2
    refine wpU_ready (rs := [9]) (by kernel_rfl) (by simp) ?_
    refine AllU.cons (by decide) rfl (fun J hJ => ?_) AllU.nil
    go_simp
    try go_wp2_with fail
    refine hJ.out _ _ (SK.out _ HAz.out.1 HAz.out.2) (fun hHeld2 => ?_)
    clear hJ J hHeld
    have hHeld := hHeld2
    clear hHeld2
    refine wpU_ready (rs := [10]) (by kernel_rfl) (by simp) ?_
    refine AllU.cons (by decide) rfl (fun J hJ => ?_) AllU.nil
    go_simp
    try go_wp2_with fail
    refine hJ.out _ _ (SK.out _ HAz.out.1 HAz.out.2) (fun hHeld2 => ?_)
    clear hJ J hHeld
    have hHeld := hHeld2
    clear hHeld2
    refine wpU_ready (rs := [11]) (by kernel_rfl) (by simp) ?_
    refine AllU.last rfl (fun J hJ => ?_)
    go_simp
    try go_wp2_with fail
    refine hJ.out _ _ ?_
    clear hJ J
    refine wpAny_done (by kernel_rfl) ?_ _
    go_wp2_with fail
    go_ret
    obtain ⟨G', F', hp', hn', hk'⟩ := pb_push HP.out (bel2 BD.out B8.out) BD.out.size B8.out.size HST.out B89.out HGR.out HO.out HNN.out HFQ.out
    exact ⟨⟨0, (ts ++ [t']).map Im.m, F', rfl, .inr (.inr ⟨HR.out, by rw [HX.out, ← HK.out]; exact hk, rfl, by rw [List.map_append, List.map_cons, List.map_nil, HM'.out]⟩), ⟨a, ts ++ [t'], q, d, G', rfl, rfl, hp'⟩, hn'⟩, hk'⟩
  · have hkk := HKK.out.2 (by omega)
    rw [decide_eq_false hkk] at hne
    simp only [Bool.not_false] at hne
    refine wpAnyH_ready (rs := [3]) (by kernel_rfl) (by simp) ?_
    refine AllReadyH.cons rfl (fun J hJ => ?_) AllReadyH.nil
    go_simp
    try go_wp2_with fail
    refine hJ.out _ _ (SK3.out _ A5.out) (fun hHeld2 => ?_)
    clear hJ J hHeld hHeld2 hne hkk HKK HKB
    refine wpAnyH_done (by kernel_rfl) ?_ _
    go_wp2_with fail
    go_ret
    exact ⟨⟨10, ts.map Im.m, F, rfl, .inr (.inl ⟨HR.out, by rw [HX.out, ← HK.out]; omega, rfl, rfl⟩), ⟨a, ts, p, c, G, rfl, rfl, HP.out.below B5.out⟩, Near.refl _ _⟩, keep_in B5.out⟩
end Go.Proofs.YtmogplecohkjcaaGreatDoor
