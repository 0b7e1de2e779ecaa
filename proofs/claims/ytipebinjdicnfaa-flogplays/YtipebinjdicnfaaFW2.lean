/-
  Package flog, walked: bytes, read as frames.
-/
import Derived.Test.YtipebinjdicnfaaFW1
import Derived.Test.YtipebinjdicnfaaDU
import Derived.Deep.RegionWith
import Derived.Deep.LoopGhost
import Derived.Deep.CutRange
namespace Go.Proofs.Ytipebinjdicnfaa
open Go.RowKit

def strV (l : List ByteArray) : List Value := l.map fun x => .string x
theorem strV_app (a b : List ByteArray) : strV (a ++ b) = strV a ++ strV b := List.map_append
theorem strV_len (a : List ByteArray) : (strV a).length = a.length := List.length_map ..
theorem one_new (w : World) (a : Value) (t : TypeId) : ∀ j u, [a][j]? = some u → (w.alloc (.cells #[a] t)).cell? ((⟨w.heap.size, 0, none⟩ : Addr).add j) = some u := by
  intro j u h
  rw [add_zero_at]
  match j, h with
  | 0, h => simp at h; subst h; exact tag_cell (heap_alloc_new _ _) 0 _ rfl
  | j + 1, h => simp at h

/-- What is held in the loop of read: the texts so far, the place. -/
def RdI (w wr : World) (b : List UInt8) (N : Nat) (p : Option Addr) (n c k k2 : Nat) : Prop :=
  ∃ l : List ByteArray, n = l.length ∧ wr.ownsRow w.heap.size 9 1 (.slice p n c) n (strV l) ∧ (∀ t ∈ l, t.size ≤ 20000) ∧ b = frs l ++ b.drop k ∧ (frs l).length = k ∧ k ≤ N ∧
  wr.heap[w.heap.size]? = some (.cells #[.int .i64 0, .int .i64 0] 60 (0, 0)) ∧ wr.heap[w.heap.size + 1]? = some (.cells #[.int .i64 (k2 : Int), .int .i64 ((N : Int) - (k2 : Int))] 60 (0, 0)) ∧ Below w.heap.size w wr

theorem RdI.below {w wr wx : World} {b : List UInt8} {N : Nat} {p : Option Addr} {n c k k2 : Nat} (h : RdI w wr b N p n c k k2) (hb : Below wr.heap.size wr wx) : RdI w wx b N p n c k k2 := by
  obtain ⟨l, h1, h2, h3, h4, h5, h6, h7, h8, h9⟩ := h
  exact ⟨l, h1, own_below h2 hb, h3, h4, h5, h6, (hb.block _ (lt_of_block h7)).trans h7, (hb.block _ (lt_of_block h8)).trans h8, h9.trans (hb.mono h9.size)⟩
theorem RdI.base {w wr : World} {b : List UInt8} {N : Nat} {p : Option Addr} {n c k k2 : Nat} (h : RdI w wr b N p n c k k2) : Below w.heap.size w wr := by
  obtain ⟨_, _, _, _, _, _, _, _, _, h9⟩ := h
  exact h9
theorem RdI.at1 {w wr : World} {b : List UInt8} {N : Nat} {p : Option Addr} {n c k k2 : Nat} (h : RdI w wr b N p n c k k2) : wr.heap[w.heap.size + 1]? = some (.cells #[.int .i64 (k2 : Int), .int .i64 ((N : Int) - (k2 : Int))] 60 (0, 0)) := by
  obtain ⟨_, _, _, _, _, _, _, _, h8, _⟩ := h
  exact h8
theorem RdI.lt {w wr : World} {b : List UInt8} {N : Nat} {p : Option Addr} {n c k k2 : Nat} (h : RdI w wr b N p n c k k2) : w.heap.size + 1 < wr.heap.size := lt_of_block h.at1
theorem RdI.at0 {w wr : World} {b : List UInt8} {N : Nat} {p : Option Addr} {n c k k2 : Nat} (h : RdI w wr b N p n c k k2) : wr.heap[w.heap.size]? = some (.cells #[.int .i64 0, .int .i64 0] 60 (0, 0)) := by
  obtain ⟨_, _, _, _, _, _, _, h7, _, _⟩ := h
  exact h7
theorem RdI.put {w wr : World} {b : List UInt8} {N : Nat} {p : Option Addr} {n c k k2 k3 : Nat} (h : RdI w wr b N p n c k k2) : RdI w ((wr.setCell ⟨w.heap.size + 1, 0, none⟩ (.int .i64 (k3 : Int))).setCell ⟨w.heap.size + 1, 1, none⟩ (.int .i64 ((N : Int) - (k3 : Int)))) b N p n c k k3 := by
  obtain ⟨l, h1, h2, h3, h4, h5, h6, h7, h8, h9⟩ := h
  refine ⟨l, h1, own_set (own_set h2 h8 (by decide) 0 _) (tok_set h8 0 _) (by decide) 1 _, h3, h4, h5, h6, ?_, tok_set (tok_set h8 0 _) 1 _, (h9.setCell (p := ⟨w.heap.size + 1, 0, none⟩) (Nat.le_succ _) _).setCell (p := ⟨w.heap.size + 1, 1, none⟩) (Nat.le_succ _) _⟩
  rw [Below.heap_setCell _ _ _ _ (show w.heap.size ≠ w.heap.size + 1 by omega), Below.heap_setCell _ _ _ _ (show w.heap.size ≠ w.heap.size + 1 by omega)]
  exact h7
theorem frs_len : ∀ l : List ByteArray, 3 * l.length ≤ (frs l).length
  | [] => Nat.le_refl _
  | t :: l => by
    have := frs_len l
    show 3 * (l.length + 1) ≤ (fr t ++ frs l).length
    rw [List.length_append, fr_len]
    omega
theorem infoString : (Try.prog.info? 9).map (fun i => (i.zero, i.size, i.bytes)) = some (some (.string ByteArray.empty), 1, 16) := by kernel_rfl
theorem results_tmp_row {P : Program} {fn : Func} {u p : Tmp} {ty : TypeId} (h : fn.results = #[.tmp u, .cell p ty]) (tmps : Array Value) (w : World) (g : Nat) (t : TypeId) (cs : Array Value) (fr : Nat × Nat) (d : TypeDesc)
    (hp : tmps.getD p undef = .pointer (some ⟨g, 0, none⟩)) (hg : w.heap[g]? = some (.cells cs t fr))
    (hu : P.underlying ty = some d) (hd : (match d with | .struct _ | .array _ _ => true | _ => false) = true) (hi : (P.info? ty).map (·.size) = some cs.size) :
    (results fn tmps).run P w = .ok (.tuple #[tmps.getD u undef, .agg cs]) w := by
  have hp' : tmps[p]?.getD undef = .pointer (some ⟨g, 0, none⟩) := by simpa using hp
  simp [results, h, Result.andThen, hp', asAddr, run_loadVar_row w g t ty cs fr d hg hu hd hi]
theorem add_at (B o j : Nat) : (⟨B, o, none⟩ : Addr).add j = ⟨B, o + j, none⟩ := by cases j <;> simp [Addr.add]
theorem RowAt.below {w w' : World} {A o : Nat} {b : List UInt8} (h : RowAt w A o b) (hb : Below w.heap.size w w') : RowAt w' A o b := fun j hj => cell_keep (h j hj) hb
theorem RowAt.drop {w : World} {A : Nat} {b : List UInt8} (h : RowAt w A 0 b) (k : Nat) : RowAt w A k (b.drop k) := fun j hj => by
  rw [List.length_drop] at hj
  have := h (k + j) (by omega)
  rw [Nat.zero_add] at this
  rw [List.getElem_drop]
  exact this
theorem RowAt.bytes {w : World} {A o : Nat} {b : List UInt8} (h : RowAt w A o b) (m c : Nat) (hm : m ≤ b.length) : IsBytes w (.slice (some ⟨A, o, none⟩) m c) (b.take m) := by
  have hl : (b.take m).length = m := by rw [List.length_take]; omega
  refine .inr ⟨⟨A, o, none⟩, c, by rw [hl], fun j hj => ?_⟩
  rw [add_at, List.getElem_take]
  exact h j (by omega)
theorem mk_bl (t : ByteArray) : (⟨(bl t).toArray⟩ : ByteArray) = t := rfl
/-- Where no frame stands ahead the texts are all that can be read. -/
theorem RdI.done {w wr : World} {b : List UInt8} {N : Nat} {p : Option Addr} {n c k k2 : Nat} (h : RdI w wr b N p n c k k2) (hN : N = b.length) (hs : Stop (b.drop k)) : ∃ l r, n = List.length l ∧ r = b.drop k ∧ Rd b l r ∧ wr.ownsRow w.heap.size 9 1 (.slice p n c) l.length (strV l) ∧ ((N : Int) - (r.length : Int)) = (k : Int) ∧ (r.length : Int) = (N : Int) - (k : Int) := by
  obtain ⟨l, h1, h2, h3, h4, h5, h6, h7, h8, h9⟩ := h
  refine ⟨l, b.drop k, h1, rfl, ⟨h4, h3, hs⟩, by rw [← h1]; exact h2, ?_, ?_⟩
  · rw [List.length_drop]; omega
  · rw [List.length_drop]; omega

set_option maxHeartbeats 4000000 in
theorem read_any (w : World) (A N c : Nat) (b : List UInt8) (h : RowAt w A 0 b) (hn : N = b.length) (hc : N ≤ c) (hN : N ≤ 60000) :
    Calls Try.prog 28 #[.slice (some ⟨A, 0, none⟩) N c] w fun e w' => (∃ (v : Value) (l : List ByteArray) (r : List UInt8), e = .returned (.tuple #[v, .agg #[.int .i64 ((N : Int) - (r.length : Int)), .int .i64 (r.length : Int)]]) ∧ Rd b l r ∧ w'.ownsRow w.heap.size 9 1 v l.length (strV l)) ∧ Below w.heap.size w w' := by
  obtain ⟨j0, hj, hjz0, hjz1, hjz2⟩ := info_parts infoString
  have HRW := hide h
  have HN := hide hn
  have HB := hide hN
  clear h hn
  obtain ⟨w1, hw1⟩ : ∃ w1, w1 = (w.alloc (.cells #[.int .i64 0, .int .i64 0] 60)).alloc (.cells #[.int .i64 0, .int .i64 (N : Int)] 60) := ⟨_, rfl⟩
  have H1 : Hid (RdI w w1 b N none 0 0 0 0) := hide (by
    rw [hw1]
    refine ⟨[], rfl, World.ownsRow_nil .., by simp, rfl, rfl, Nat.zero_le _, ?_, ?_, ((Below.refl _ _).alloc (Nat.le_refl _) _).alloc (by simp) _⟩
    · rw [Below.heap_alloc _ _ _ (by simp)]
      exact heap_alloc_new _ _
    · rw [heap_alloc2_new]
      simp)
  go_enter Try.func28, Try.ntmps28
  go_wp2_with fail
  go_step3
  go_wp2_with fail
  go_step3
  go_wp2_with fail
  rw [← hw1]
  clear hw1
  go_loopg [4] N (fun g v4 wr => ∃ (p : Option Addr) (n cc k : Nat), k + g = N ∧ v4 = .slice p n cc ∧ Hid (RdI w wr b N p n cc k k))
  case atStart => exact ⟨none, 0, 0, 0, Nat.zero_add _, rfl, H1⟩
  case round =>
    clear H1
    obtain ⟨p, n, cc, k, hk, rfl, HI⟩ := hrel
    have hkN : k ≤ N := by omega
    have c0 : wr.cell? ⟨w.heap.size + 1, 0, none⟩ = some (.int .i64 (k : Int)) := tag_cell HI.out.at1 0 _ rfl
    have c1 : wr.cell? ⟨w.heap.size + 1, 1, none⟩ = some (.int .i64 ((N : Int) - (k : Int))) := tag_cell HI.out.at1 1 _ rfl
    go_upto_region 3 with fail
    go_cut [13] from 10 to 46 (fun v13 wx => v13 = .bool (decide (k < N)) ∧ Hid (RdI w wx b N p n cc k k))
    case first =>
      rcases Nat.lt_or_eq_of_le hkN with hlt | heq
      · have hne : ((k : Int) == (N : Int)) = false := by simp; omega
        have HBB := hide (decide_eq_true hlt)
        clear hkN hlt
        go_region_with (go_at_call 29; refine (endOf_any _ _ _ _).mono ?_; rintro e wE ⟨rfl, hbE⟩; have y0 : (World.drew wr).cell? ⟨w.heap.size + 1, 0, none⟩ = some (.int .i64 (k : Int)) := c0; have z0 := cell_keep y0 hbE; have y1 : (World.drew wr).cell? ⟨w.heap.size + 1, 1, none⟩ = some (.int .i64 ((N : Int) - (k : Int))) := c1; have z1 := cell_keep y1 hbE; have HBE := hide (bel2 (bel_one wr) hbE); clear hbE y0 y1)
        all_goals
          go_wp2_with fail
          go_meet
          exact ⟨by rw [HBB.out], hide (HI.out.below HBE.out)⟩
      · have HBB : Hid (decide (k < N) = false) := hide (decide_eq_false (by omega))
        have e0 : (k : Int) = (N : Int) := by omega
        replace c1 : wr.cell? ⟨w.heap.size + 1, 1, none⟩ = some (.int .i64 0) := by rw [c1, e0, Int.sub_self]
        replace c0 : wr.cell? ⟨w.heap.size + 1, 0, none⟩ = some (.int .i64 (N : Int)) := by rw [c0, e0]
        clear e0 heq
        go_region_with (go_at_call 29; refine (endOf_any _ _ _ _).mono ?_; rintro e wE ⟨rfl, hbE⟩; have y0 : (World.drew wr).cell? ⟨w.heap.size + 1, 0, none⟩ = some (.int .i64 (N : Int)) := c0; have z0 := cell_keep y0 hbE; have y1 : (World.drew wr).cell? ⟨w.heap.size + 1, 1, none⟩ = some (.int .i64 0) := c1; have z1 := cell_keep y1 hbE; have HBE := hide (bel2 (bel_one wr) hbE); clear hbE y0 y1)
        all_goals
          go_wp2_with fail
          go_meet
          exact ⟨by rw [HBB.out], hide (HI.out.below HBE.out)⟩
    case rest =>
    obtain ⟨rfl, HI2⟩ := hcut
    clear c0 c1 HI
    have c0 : wc.cell? ⟨w.heap.size + 1, 0, none⟩ = some (.int .i64 (k : Int)) := tag_cell HI2.out.at1 0 _ rfl
    have c1 : wc.cell? ⟨w.heap.size + 1, 1, none⟩ = some (.int .i64 ((N : Int) - (k : Int))) := tag_cell HI2.out.at1 1 _ rfl
    by_cases hlt : k < N
    · have hB := decide_eq_true hlt
      have HR2 : Hid (RowAt wc A 0 b) := hide (HRW.out.below HI2.out.base)
      by_cases h3 : (N : Int) - (k : Int) - 3 < 0
      · have d3 : decide ((N : Int) - (k : Int) - 3 < 0) = true := decide_eq_true h3
        have HST : Hid (Stop (b.drop k)) := hide (.inl (by rw [List.length_drop, ← HN.out]; omega))
        clear h3 HR2
        go_wp2_with (go_at_call 38; refine (past_any _ (k : Int) ((N : Int) - (k : Int)) 3 (by omega) (by omega)).mono ?_; rintro e w4 ⟨rfl, hb4⟩; have HI4 := hide (HI2.out.below hb4); clear hb4)
        clear c0 c1 d3 HI2 hB
        obtain ⟨w5, hw5⟩ : ∃ w5, w5 = w4.alloc (.cells #[.int .i64 ((k : Int) + 3), .int .i64 ((N : Int) - (k : Int) - 3)] 60) := ⟨_, rfl⟩
        rw [← hw5]
        have HI5 := hide (HI4.out.below (by rw [hw5]; exact (Below.refl _ _).alloc (Nat.le_refl _) _ : Below w4.heap.size w4 w5))
        clear hw5 HI4
        have HD := hide (HI5.out.done HN.out HST.out)
        have q0 := tag_cell HI5.out.at0 0 (.int .i64 0) rfl
        have q1 := tag_cell HI5.out.at0 1 (.int .i64 0) rfl
        have g0 := tag_free HI5.out.at0 0
        have g1 := tag_free HI5.out.at0 1
        have x0 := tag_cell HI5.out.at1 0 (.int .i64 (k : Int)) rfl
        have x1 := tag_cell HI5.out.at1 1 (.int .i64 ((N : Int) - (k : Int))) rfl
        go_region
        go_wp2_with fail
        try rw [Exit.noGoto_ret]
        refine bodyPost_ret (results_tmp_row rfl _ _ w.heap.size 60 #[.int .i64 (k : Int), .int .i64 ((N : Int) - (k : Int))] (0, 0) _ rfl ?_ Try.underlying60 rfl (by kernel_rfl)) rfl ?_
        · exact tok_set (tok_set HI5.out.at0 0 (.int .i64 (k : Int))) 1 (.int .i64 ((N : Int) - (k : Int)))
        · obtain ⟨l, r, h1, h2, h3, h4, h5, h6⟩ := HD.out
          refine ⟨⟨_, l, r, by rw [h5, h6], h3, ?_⟩, ((HI5.out.base.setCell (p := ⟨w.heap.size, 0, none⟩) (Nat.le_refl _) _).setCell (p := ⟨w.heap.size, 1, none⟩) (Nat.le_refl _) _).drew⟩
          exact (own_set (own_set h4 HI5.out.at0 (by decide) 0 _) (tok_set HI5.out.at0 0 _) (by decide) 1 _).drew
      · obtain ⟨K1, hK1⟩ : ∃ K1, K1 = k + 3 := ⟨_, rfl⟩
        have d3 : decide ((N : Int) - (K1 : Int) < 0) = false := decide_eq_false (by omega)
        have H3 : Hid (K1 = k + 3 ∧ K1 ≤ N) := hide (by omega)
        clear h3 hK1
        go_wp2_with (go_at_call 38; refine (past_to _ (k : Int) ((N : Int) - (k : Int)) 3 (K1 : Int) ((N : Int) - (K1 : Int)) (by have := H3.out; omega) (by have := H3.out; omega) (by have := H3.out; omega) (by have := H3.out; omega)).mono ?_; rintro e w4 ⟨rfl, hb4⟩; have HI4 := hide (HI2.out.below hb4); have HR4 := hide (HR2.out.below hb4); clear hb4)
        clear c0 c1 d3 HI2 HR2 hB
        obtain ⟨w5, hw5⟩ : ∃ w5, w5 = w4.alloc (.cells #[.int .i64 (K1 : Int), .int .i64 ((N : Int) - (K1 : Int))] 60) := ⟨_, rfl⟩
        rw [← hw5]
        have hb5 : Below w4.heap.size w4 w5 := by rw [hw5]; exact (Below.refl _ _).alloc (Nat.le_refl _) _
        have ht5 : w5.heap[w4.heap.size]? = some (.cells #[.int .i64 (K1 : Int), .int .i64 ((N : Int) - (K1 : Int))] 60 (0, 0)) := by rw [hw5]; exact heap_alloc_new _ _
        have HT5 := hide ht5
        have HI5 := hide (HI4.out.below hb5)
        have HR5 : Hid (RowAt w5 A k (b.drop k)) := hide ((HR4.out.below hb5).drop k)
        have HTO : Hid (w.heap.size + 1 < w4.heap.size) := hide HI4.out.lt
        have t0 : w5.cell? ⟨w4.heap.size, 0, none⟩ = some (.int .i64 (K1 : Int)) := tag_cell ht5 0 _ rfl
        have t1 : w5.cell? ⟨w4.heap.size, 1, none⟩ = some (.int .i64 ((N : Int) - (K1 : Int))) := tag_cell ht5 1 _ rfl
        have c0 := tag_cell HI5.out.at1 0 (.int .i64 (k : Int)) rfl
        clear hw5 hb5 HI4 HR4 ht5
        have hkc : (k : Int) ≤ (c : Int) := by omega
        have hck : ¬ c = k := by omega
        have h20 : (N : Int) - (K1 : Int) ≤ 60000 := by omega
        obtain ⟨M, hM⟩ : ∃ M, M = num (b.drop k) := ⟨_, rfl⟩
        have HM := hide hM
        have HSZ : Hid (∀ n, Calls Try.prog 39 #[.slice (some ⟨A, k, none⟩) (N - k) (c - k)] (w5.drewN n) fun e w' => e = .returned (.int .i64 (M : Int)) ∧ ∃ m, w' = (w5.drewN n).drewN m) := hide (fun n => by
          rw [HM.out]
          exact (sizeOf_any (w5.drewN n) A k (N - k) (c - k) (b.drop k) (HR5.out.below (bel_drewN w5 n)) (by rw [List.length_drop, ← HN.out]) (by have := H3.out; omega)).mono fun e w' h => ⟨h.1, 1, h.2⟩)
        have hMl : M < 16777216 := by rw [HM.out]; exact num_lt _
        clear hM
        go_cut [37] from 10 to 46 (fun v37 wx => ∃ B : Bool, v37 = .bool B ∧ Hid (B = decide (¬ (M ≤ 20000 ∧ 3 + M ≤ N - k))) ∧ Hid (∃ q, wx = w5.drewN q))
        case first =>
          go_quiet ((go_at_call 39; exact Calls.quiet_of (HSZ.out _)))
          go_wp2_with fail
          all_goals go_meet
          all_goals exact ⟨_, rfl, hide (decide_eq_decide.2 (by have := H3.out; omega)), hide ⟨_, rfl⟩⟩
        case rest =>
        obtain ⟨B, rfl, HBB, HQ⟩ := hcut
        have HBQ : Hid (Below w5.heap.size w5 wc) := hide (by obtain ⟨q, rfl⟩ := HQ.out; exact bel_drewN w5 q)
        have HI6 := hide (HI5.out.below HBQ.out)
        clear t0 t1 c0 h20
        by_cases hG : M ≤ 20000 ∧ 3 + M ≤ N - k
        · have hg : B = false := by rw [HBB.out]; exact decide_eq_false (fun h => h hG)
          subst hg
          have ht6 : wc.heap[w4.heap.size]? = some (.cells #[.int .i64 (K1 : Int), .int .i64 ((N : Int) - (K1 : Int))] 60 (0, 0)) := (HBQ.out.block _ (lt_of_block HT5.out)).trans HT5.out
          have HT6 := hide ht6
          have HNS : Hid (¬ Stop (b.drop k)) := hide (by
            unfold Stop
            rw [← HM.out, List.length_drop, ← HN.out]
            omega)
          have SK : Hid (∀ wx, Below wc.heap.size wc wx → (wx.cell? ⟨w4.heap.size, 0, none⟩ = some (.int .i64 (K1 : Int)) ∧ wx.cell? ⟨w4.heap.size, 1, none⟩ = some (.int .i64 ((N : Int) - (K1 : Int)))) ∧ wx.cell? ⟨w.heap.size + 1, 0, none⟩ = some (.int .i64 (k : Int))) := hide (fun wx hx => ⟨⟨cell_keep (tag_cell ht6 0 _ rfl) hx, cell_keep (tag_cell ht6 1 _ rfl) hx⟩, cell_keep (tag_cell HI6.out.at1 0 _ rfl) hx⟩)
          have HSW : Hid (∀ wx, Below wc.heap.size wc wx → Calls Try.prog 39 #[.slice (some ⟨A, k, none⟩) (N - k) (c - k)] wx fun e w' => e = .returned (.int .i64 (M : Int)) ∧ w' = wx.drew) := hide (fun wx hx => by
            rw [HM.out]
            exact sizeOf_any wx A k (N - k) (c - k) (b.drop k) (HR5.out.below (bel2 HBQ.out hx)) (by rw [List.length_drop, ← HN.out]) (by have := H3.out; omega))
          have hg1 := hG.1
          obtain ⟨K2, hK2⟩ : ∃ K2, K2 = K1 + M := ⟨_, rfl⟩
          have HG2 : Hid (3 + M ≤ N - k ∧ K2 = K1 + M ∧ K2 ≤ N) := hide ⟨hG.2, hK2, by have := H3.out; omega⟩
          clear hG ht6 HSZ hK2
          go_wp2_with fail
          refine wp_region_until (m := 7) (S := (fun wx => (wx.cell? ⟨w4.heap.size, 0, none⟩ = some (.int .i64 (K1 : Int)) ∧ wx.cell? ⟨w4.heap.size, 1, none⟩ = some (.int .i64 ((N : Int) - (K1 : Int)))) ∧ wx.cell? ⟨w.heap.size + 1, 0, none⟩ = some (.int .i64 (k : Int)))) (by kernel_rfl) (SK.out _ (bel_one wc)) (fun hHeld => ?_)
          refine wpU_at (i := 0) (v := ?vf0) (a1 := ?xf0) rfl (by kernel_rfl) (by kernel_rfl) (by kernel_rfl) (by kernel_rfl) (fun _ _ _ h => h) (Or.inl ⟨by rfl, ?yf0⟩) (by assumption) ?hf0 ?zf0
          case yf0 => (intro w hSw; (try dsimp only at hSw); go_simp; try (with_reducible rfl))
          case hf0 => (go_simp; exact rfl)
          case zf0 =>
          refine wpU_at (i := 1) (v := ?vf1) (a1 := ?xf1) rfl (by kernel_rfl) (by kernel_rfl) (by kernel_rfl) (by kernel_rfl) (fun _ _ _ h => h) (Or.inl ⟨by rfl, ?yf1⟩) (by assumption) ?hf1 ?zf1
          case yf1 => (intro w hSw; (try dsimp only at hSw); go_simp; try (with_reducible rfl))
          case hf1 => (go_simp; exact rfl)
          case zf1 =>
          refine wpU_at (i := 2) (v := ?vf2) (a1 := ?xf2) rfl (by kernel_rfl) (by kernel_rfl) (by kernel_rfl) (by kernel_rfl) (fun _ _ _ h => h) (Or.inl ⟨by rfl, ?yf2⟩) (by assumption) ?hf2 ?zf2
          case yf2 => (intro w hSw; (try dsimp only at hSw); go_simp; try (with_reducible rfl))
          case hf2 => (go_simp; exact rfl)
          case zf2 =>
          refine wpU_at (i := 3) (v := ?vf3) (a1 := ?xf3) rfl (by kernel_rfl) (by kernel_rfl) (by kernel_rfl) (by kernel_rfl) (fun _ _ _ h => h) (Or.inl ⟨by rfl, ?yf3⟩) (by assumption) ?hf3 ?zf3
          case yf3 => (intro w hSw; (try dsimp only at hSw); go_simp; try (with_reducible rfl))
          case hf3 => (go_simp; exact rfl)
          case zf3 =>
          refine wpU_at (i := 4) (v := ?vf4) (a1 := ?xf4) rfl (by kernel_rfl) (by kernel_rfl) (by kernel_rfl) (by kernel_rfl) (fun _ _ _ h => h) (Or.inl ⟨by rfl, ?yf4⟩) (by assumption) ?hf4 ?zf4
          case yf4 => (intro w hSw; (try dsimp only at hSw); go_simp; try (with_reducible rfl))
          case hf4 => (go_simp; exact rfl)
          case zf4 =>
          refine wpU_ready (rs := [5]) (by kernel_rfl) (by simp) ?_
          refine AllU.cons (by decide) rfl (fun K hK => ?_) AllU.nil
          go_simp
          refine (HSW.out _ (bel_one wc)).mono ?_
          rintro e w6 ⟨rfl, rfl⟩
          try go_wp2_with fail
          refine hK.out _ _ (by first | exact SK.out _ HB7.out | exact SK.out _ (bel2 (bel_one wc) (bel_one _))) (fun hHeld2 => ?_)
          clear hK K hHeld
          have hHeld := hHeld2
          clear hHeld2
          refine wpU_ready (rs := [6]) (by kernel_rfl) (by simp) ?_
          refine AllU.cons (by decide) rfl (fun K hK => ?_) AllU.nil
          go_simp
          refine (past_to _ (K1 : Int) ((N : Int) - (K1 : Int)) (M : Int) (K2 : Int) ((N : Int) - (K2 : Int)) (by have := HG2.out; omega) (by have := HG2.out; omega) (by have := HG2.out; omega) (by have := HG2.out; omega)).mono ?_
          rintro e w7 ⟨rfl, hb7⟩
          have HB7 : Hid (Below wc.heap.size wc w7) := hide ((bel2 (bel_one wc) (bel2 (bel_one _) hb7)))
          clear hb7
          try go_wp2_with fail
          refine hK.out _ _ (by first | exact SK.out _ HB7.out | exact SK.out _ (bel2 (bel_one wc) (bel_one _))) (fun hHeld2 => ?_)
          clear hK K hHeld
          have hHeld := hHeld2
          clear hHeld2
          refine wpU_ready (rs := [7]) (by kernel_rfl) (by simp) ?_
          refine AllU.last rfl (fun K hK => ?_)
          have HI7 := hide (HI6.out.below HB7.out)
          have z0 := tag_cell HI7.out.at1 0 _ rfl
          have z1 := tag_cell HI7.out.at1 1 _ rfl
          have y0 := tag_free HI7.out.at1 0
          have y1 := tag_free HI7.out.at1 1
          go_simp
          try go_wp2_with fail
          refine hK.out _ _ ?_
          clear hK K
          refine wpAny_done (by kernel_rfl) ?_ _
          obtain ⟨t, hts, ht2, htr, htb, htl⟩ := go_on HNS.out
          rw [← HM.out] at hts htr htb htl
          obtain ⟨w8, hw8⟩ : ∃ w8, w8 = (w7.setCell ⟨w.heap.size + 1, 0, none⟩ (.int .i64 (K2 : Int))).setCell ⟨w.heap.size + 1, 1, none⟩ (.int .i64 ((N : Int) - (K2 : Int))) := ⟨_, rfl⟩
          rw [← hw8]
          have HI8 : Hid (RdI w w8 b N p n cc k K2) := hide (by
            rw [hw8]
            exact HI7.out.put)
          have HT8 : Hid (w8.heap[w4.heap.size]? = some (.cells #[.int .i64 (K1 : Int), .int .i64 ((N : Int) - (K1 : Int))] 60 (0, 0))) := hide (by
            have h := HTO.out
            rw [hw8, Below.heap_setCell _ _ _ _ (show w4.heap.size ≠ w.heap.size + 1 by omega), Below.heap_setCell _ _ _ _ (show w4.heap.size ≠ w.heap.size + 1 by omega)]
            exact (HB7.out.block _ (lt_of_block HT6.out)).trans HT6.out)
          have hcv : (convert 38 9 (.slice (if c = K1 then some ⟨A, 0, none⟩ else some ⟨A, K1, none⟩) (K2 - K1) (c - K1))).run Try.prog w8 = .ok (.string t) w8 := by
            have h1 : RowAt w8 A K1 (b.drop K1) := (HRW.out.below HI8.out.base).drop K1
            have hM2 : K2 - K1 = M := by have := HG2.out; omega
            have hl : M ≤ (b.drop K1).length := by rw [List.length_drop, ← HN.out]; have := HG2.out; omega
            have hbt : (b.drop K1).take M = bl t := by rw [htb, List.drop_drop, ← H3.out.1]
            rw [hM2]
            have h2 := (h1.bytes M (c - K1) hl)
            rw [hbt] at h2
            by_cases hcK : c = K1
            · rw [if_pos hcK]
              have h0 : M = 0 := by have := HG2.out; omega
              have hb0 : bl t = [] := List.eq_nil_of_length_eq_zero (by rw [bl_len, hts, h0])
              rw [hb0] at h2
              have h3 : IsBytes w8 (.slice (some ⟨A, 0, none⟩) M (c - K1)) (bl t) := by
                rw [hb0, h0]
                exact .inr ⟨_, _, rfl, fun j hj => absurd hj (by simp)⟩
              exact h3.conv
            · rw [if_neg hcK]
              exact h2.conv
          have HTX : Hid (b = frs [t] ++ [] ∨ True) := hide (.inr trivial)
          have i0 : (K1 : Int) ≤ (K2 : Int) := by have := HG2.out; omega
          have i1 : (K2 : Int) ≤ (c : Int) := by have := HG2.out; omega
          have i2 : (K1 : Int) ≤ (c : Int) := by omega
          have t0 := tag_cell HT8.out 0 (.int .i64 (K1 : Int)) rfl
          have x0 := tag_cell HI8.out.at1 0 (.int .i64 (K2 : Int)) rfl
          have HTT := hide (And.intro hts (And.intro ht2 htr))
          obtain ⟨ls, q1, q2, q3, q4, q5, q6, q7, q8, q9⟩ := HI8.out
          have hn3 : n ≤ 60000 := by have := frs_len ls; omega
          have HOW : Hid ((w8.alloc (.cells #[.string t] 9)).ownsRow w.heap.size 9 1 (.slice p n cc) n (strV ls)) := hide (q2.alloc _)
          have HSZ2 : Hid (w.heap.size ≤ (w8.alloc (.cells #[.string t] 9)).heap.size) := hide (by have := q9.size; simp; omega)
          have HQ2 := hide (And.intro q1 (And.intro q3 (And.intro q4 q5)))
          have HQ7 := hide (And.intro q7 (And.intro q8 q9))
          clear q1 q2 q3 q4 q5 q6 q7 q8 q9
          clear hw8 hts ht2 htr htb htl z0 z1 y0 y1 HTX HI8
          go_wp2_with (at_builtin; refine wpList_append_own _ rfl _ _ 29 rfl w.heap.size 9 j0 _ 1 16 Try.underlying29 hj hjz0 hjz1 hjz2 rfl (by decide) (.slice p n cc) n (strV ls) rfl HOW.out ⟨w8.heap.size, 0, none⟩ 1 1 [.string t] rfl rfl (one_new _ _ _) (by simp [Value.oneCell']) (by unfold maxLen; omega) (by omega) HSZ2.out ?_)
          all_goals
            intro u' w9 hown9 hg9 _
            obtain ⟨p9, c9, rfl⟩ := own_len hown9
            have hB9 : Below w8.heap.size w8 (w8.alloc (.cells #[.string t] 9)) := (Below.refl _ _).alloc (Nat.le_refl _) _
            have HR9 : Hid (RdI w w9 b N p9 (n + 1) c9 K2 K2) := hide (by
              have hlt0 : w.heap.size < w8.heap.size := lt_of_block HQ7.out.1
              have hlt1 : w.heap.size + 1 < w8.heap.size := lt_of_block HQ7.out.2.1
              have hne0 : (Value.slice p n cc).ownBlock ≠ some w.heap.size := own_apart HOW.out ((hB9.block _ hlt0).trans HQ7.out.1) (by decide)
              have hne1 : (Value.slice p n cc).ownBlock ≠ some (w.heap.size + 1) := own_apart HOW.out ((hB9.block _ hlt1).trans HQ7.out.2.1) (by decide)
              refine ⟨ls ++ [t], by rw [List.length_append, ← HQ2.out.1]; rfl, by rw [strV_app]; exact hown9, ?_, ?_, ?_, HG2.out.2.2, ?_, ?_, (HQ7.out.2.2.alloc HQ7.out.2.2.size _).grown hg9 HSZ2.out (fun kk hkk => (HOW.out.lt kk hkk).1)⟩
              · intro x hx
                rcases List.mem_append.1 hx with hx | hx
                · exact HQ2.out.2.1 x hx
                · rw [List.mem_singleton.1 hx]
                  exact HTT.out.2.1
              · have e : 3 + M + k = K2 := by have := HG2.out; have := H3.out; omega
                have e2 := HTT.out.2.2
                rw [List.drop_drop, Nat.add_comm k (3 + M), e] at e2
                rw [frs_app, frs_one, List.append_assoc, ← e2]
                exact HQ2.out.2.2.1
              · rw [frs_app, frs_one, List.length_append, fr_len, HQ2.out.2.2.2, HTT.out.1]
                have := HG2.out
                have := H3.out
                omega
              · exact (hg9.block _ (Nat.lt_of_lt_of_le hlt0 hB9.size) (fun e => hne0 e.symm)).trans ((hB9.block _ hlt0).trans HQ7.out.1)
              · exact (hg9.block _ (Nat.lt_of_lt_of_le hlt1 hB9.size) (fun e => hne1 e.symm)).trans ((hB9.block _ hlt1).trans HQ7.out.2.1))
            clear hown9 hg9 hB9 HOW HSZ2
            go_wp2_with fail
            try (have hcK1 : c = K1 := by assumption
                 subst hcK1)
            go_roundg (N - K2)
            case measure => have := HG2.out; have := H3.out; omega
            case rel => exact ⟨p9, n + 1, c9, K2, by have := HG2.out; omega, rfl, HR9⟩
        · have hg : B = true := by rw [HBB.out]; exact decide_eq_true hG
          subst hg
          have HST : Hid (Stop (b.drop k)) := hide (by
            unfold Stop
            rw [← HM.out, List.length_drop, ← HN.out]
            omega)
          clear hG HSZ
          go_wp2_with fail
          have HD := hide (HI6.out.done HN.out HST.out)
          have q0 := tag_cell HI6.out.at0 0 (.int .i64 0) rfl
          have q1 := tag_cell HI6.out.at0 1 (.int .i64 0) rfl
          have g0 := tag_free HI6.out.at0 0
          have g1 := tag_free HI6.out.at0 1
          have x0 := tag_cell HI6.out.at1 0 (.int .i64 (k : Int)) rfl
          have x1 := tag_cell HI6.out.at1 1 (.int .i64 ((N : Int) - (k : Int))) rfl
          go_region
          go_wp2_with fail
          try rw [Exit.noGoto_ret]
          refine bodyPost_ret (results_tmp_row rfl _ _ w.heap.size 60 #[.int .i64 (k : Int), .int .i64 ((N : Int) - (k : Int))] (0, 0) _ rfl ?_ Try.underlying60 rfl (by kernel_rfl)) rfl ?_
          · exact tok_set (tok_set HI6.out.at0 0 (.int .i64 (k : Int))) 1 (.int .i64 ((N : Int) - (k : Int)))
          · obtain ⟨l, r, h1, h2, h3, h4, h5, h6⟩ := HD.out
            refine ⟨⟨_, l, r, by rw [h5, h6], h3, ?_⟩, ((HI6.out.base.setCell (p := ⟨w.heap.size, 0, none⟩) (Nat.le_refl _) _).setCell (p := ⟨w.heap.size, 1, none⟩) (Nat.le_refl _) _).drew⟩
            exact (own_set (own_set h4 HI6.out.at0 (by decide) 0 _) (tok_set HI6.out.at0 0 _) (by decide) 1 _).drew
    · have hB := decide_eq_false hlt
      have HST : Hid (Stop (b.drop k)) := hide (.inl (by rw [List.length_drop, ← HN.out]; omega))
      go_wp2_with fail
      clear c0 c1
      have HD := hide (HI2.out.done HN.out HST.out)
      have q0 := tag_cell HI2.out.at0 0 (.int .i64 0) rfl
      have q1 := tag_cell HI2.out.at0 1 (.int .i64 0) rfl
      have g0 := tag_free HI2.out.at0 0
      have g1 := tag_free HI2.out.at0 1
      have x0 := tag_cell HI2.out.at1 0 (.int .i64 (k : Int)) rfl
      have x1 := tag_cell HI2.out.at1 1 (.int .i64 ((N : Int) - (k : Int))) rfl
      go_region
      go_wp2_with fail
      try rw [Exit.noGoto_ret]
      refine bodyPost_ret (results_tmp_row rfl _ _ w.heap.size 60 #[.int .i64 (k : Int), .int .i64 ((N : Int) - (k : Int))] (0, 0) _ rfl ?_ Try.underlying60 rfl (by kernel_rfl)) rfl ?_
      · exact tok_set (tok_set HI2.out.at0 0 (.int .i64 (k : Int))) 1 (.int .i64 ((N : Int) - (k : Int)))
      · obtain ⟨l, r, h1, h2, h3, h4, h5, h6⟩ := HD.out
        refine ⟨⟨_, l, r, by rw [h5, h6], h3, ?_⟩, ((HI2.out.base.setCell (p := ⟨w.heap.size, 0, none⟩) (Nat.le_refl _) _).setCell (p := ⟨w.heap.size, 1, none⟩) (Nat.le_refl _) _).drew⟩
        exact (own_set (own_set h4 HI2.out.at0 (by decide) 0 _) (tok_set HI2.out.at0 0 _) (by decide) 1 _).drew
end Go.Proofs.Ytipebinjdicnfaa
