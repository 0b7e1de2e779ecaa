/-
  The law UtfCuts, walked: it answers true at every text and every number.
-/
import Derived.Test.YtnjdmkkifdiedaaR3
namespace Go.Proofs.Ytnjdmkkifdiedaa
open Go.RowKit
open Utf1

/-- What is cut of a list of characters, so many bytes being there already. -/
def cutCh (n : Int) : Nat → List (List UInt8) → List UInt8
  | _, [] => []
  | k, c :: t => if (k : Int) + (c.length : Int) ≤ n then c ++ cutCh n (k + c.length) t else []

theorem cutCh_chs (n : Int) (l : List UInt8) : ∀ k : Nat, cutCh n k (chs l) = l.take (cutR (n - k).toNat l) := by
  induction h : l.length using Nat.strongRecOn generalizing l with
  | ind m ih =>
    intro k
    by_cases hl : l = []
    · subst hl; simp [chs_nil, cutCh]
    · have hw := dl_width l hl
      rw [chs_step l hl, cutCh, cutR_step _ l hl]
      have hlen : (l.take (dl l).2).length = (dl l).2 := by rw [List.length_take]; omega
      rw [hlen]
      by_cases hk : (k : Int) + ((dl l).2 : Int) ≤ n
      · rw [if_pos hk, if_pos (by omega), ih (l.drop (dl l).2).length (by simp; omega) _ rfl (k + (dl l).2)]
        have e : (n - ((k + (dl l).2 : Nat) : Int)).toNat = (n - k).toNat - (dl l).2 := by omega
        rw [e, List.take_add]
      · rw [if_neg hk, if_neg (by omega)]
        rfl
theorem cutCh_cut (n : Int) (l : List UInt8) : cutCh n 0 (chs l) = cut l n := by
  rw [cutCh_chs]
  unfold cut
  simp

theorem cutCh_drop (n : Int) (cs : List (List UInt8)) (i k : Nat) (h : i < cs.length) : cutCh n k (cs.drop i) = if (k : Int) + (cs[i].length : Int) ≤ n then cs[i] ++ cutCh n (k + cs[i].length) (cs.drop (i + 1)) else [] := by
  rw [List.drop_eq_getElem_cons h, cutCh]

theorem own_cell {w : World} {B : Nat} {e : TypeId} {a : Option Addr} {n m cap : Nat} {xs : List Value} (h : w.ownsRow B e 1 (.slice a n cap) m xs) (i : Nat) (hi : i < xs.length) : ∃ g, a = some ⟨g, 0, none⟩ ∧ w.cell? ⟨g, i, none⟩ = some xs[i] := by
  rcases h.2 with ⟨hv, rfl⟩ | ⟨g, c, cur, hv, _, hg, hmc, _, hcs, hx⟩
  · have := h.1
    omega
  · simp at hv
    refine ⟨g, hv.1, ?_⟩
    unfold World.cell?
    rw [hg]
    have hxl : xs.length = m := by have := h.1; omega
    have hi2 : i < cur.size := by omega
    have : xs[i] = cur[i] := by
      have h2 : (cur.toList.take (m * 1))[i]? = xs[i]? := by rw [hx]
      rw [List.getElem?_take_of_lt (by omega), List.getElem?_eq_getElem hi] at h2
      simp [hi2] at h2
      exact h2.symm
    simp [this, hi2]

theorem chs_le (l : List UInt8) : ∀ c ∈ chs l, c.length ≤ l.length := by
  induction h : l.length using Nat.strongRecOn generalizing l with
  | ind m ih =>
    intro c hc
    by_cases hl : l = []
    · subst hl; simp [chs_nil] at hc
    · have hw := dl_width l hl
      rw [chs_step l hl] at hc
      rcases List.mem_cons.1 hc with rfl | hc
      · rw [List.length_take]; omega
      · have := ih (l.drop (dl l).2).length (by simp; omega) _ rfl c hc
        simp at this
        omega
theorem runes_le3 (l : List UInt8) : (runes l).length ≤ l.length := by
  induction h : l.length using Nat.strongRecOn generalizing l with
  | ind m ih =>
    by_cases hl : l = []
    · subst hl; simp [runes_nil]
    · have hw := dl_width l hl
      rw [runes_step l hl, List.length_cons]
      have := ih (l.drop (dl l).2).length (by simp; omega) _ rfl
      simp at this
      omega
theorem bl_append (a b : ByteArray) : bl (a ++ b) = bl a ++ bl b := by
  unfold bl
  rw [ByteArray.data_append, Array.toList_append]
theorem flat_mem (cs : List (List UInt8)) (k : Nat) (h : k < cs.length) : cs[k].length ≤ cs.flatten.length := by
  conv => rhs; rw [← List.take_append_drop k cs, List.flatten_append, List.length_append, List.drop_eq_getElem_cons h, List.flatten_cons, List.length_append]
  omega
theorem chs_flat (l : List UInt8) : (chs l).flatten = l := by
  induction h : l.length using Nat.strongRecOn generalizing l with
  | ind m ih =>
    by_cases hl : l = []
    · subst hl; rfl
    · have hw := dl_width l hl
      rw [chs_step l hl, List.flatten_cons, ih (l.drop (dl l).2).length (by simp; omega) _ rfl, List.take_append_drop]

set_option maxHeartbeats 1000000 in
theorem rcut_any (s : ByteArray) (n : Int) (w : World) (hs : s.size ≤ 100000) :
    Calls Try.prog 19 #[.string s, .int .i64 n] w fun e w' => e = .returned (.string ⟨(cut (bl s) n).toArray⟩) ∧ Below w.heap.size w w' := by
  have CH := hide fun w => rchars_any s w hs
  have HC := hide (cutCh_cut n (bl s))
  have hcl := chs_len (bl s)
  have hrl : (chs (bl s)).length ≤ 100000 := by
    have := runes_le3 (bl s)
    rw [bl_len] at this
    omega
  have HFL : Hid ((chs (bl s)).flatten.length = s.size) := hide (by rw [chs_flat, bl_len])
  generalize chs (bl s) = cs at *
  clear hcl
  go_enter Try.func19, Try.ntmps19
  go_wp2_with fail
  refine (CH.out _).mono ?_
  rintro e w1 ⟨v, rfl, hown, hb1⟩
  obtain ⟨a, cap, rfl⟩ : ∃ a cap, v = .slice a cs.length cap := by
    rcases hown.2 with ⟨rfl, h0⟩ | ⟨g, cap, cur, rfl, _⟩
    · rw [h0]; exact ⟨none, 0, rfl⟩
    · exact ⟨_, cap, rfl⟩
  go_wp2_with fail
  go_loop [6, 7] (fun o i => ∃ (k : Nat) (O : ByteArray), k ≤ cs.length ∧ i = .int .i64 k ∧ o = .string O ∧ Hid (bl O ++ cutCh n O.size (cs.drop k) = cut (bl s) n) ∧ Hid (bl O = (cs.take k).flatten)) (fun _ i => cs.length - (intOf i).toNat)
  case atStart => exact ⟨0, ⟨#[]⟩, Nat.zero_le _, rfl, rfl, HC, hide rfl⟩
  case round =>
    obtain ⟨k, O, hk, rfl, rfl, HA, HO⟩ := hrel
    have hOl : O.size ≤ 100000 := by
      have := congrArg List.length HO.out
      rw [bl_len] at this
      have h2 : (cs.take k).flatten.length ≤ cs.flatten.length := by
        conv => rhs; rw [← List.take_append_drop k cs, List.flatten_append, List.length_append]
        exact Nat.le_add_right _ _
      have h3 := HFL.out
      omega
    by_cases hlt : k < cs.length
    · obtain ⟨g, rfl, hce⟩ := own_cell hown k (by simpa [strCellsOf] using hlt)
      have hst := cutCh_drop n cs k O.size hlt
      obtain ⟨C, hC⟩ : ∃ C : ByteArray, C = ⟨cs[k].toArray⟩ := ⟨_, rfl⟩
      have hcv : (strCellsOf cs)[k]'(by simpa [strCellsOf] using hlt) = .string C := by rw [hC]; simp [strCellsOf]
      rw [hcv] at hce
      have hCb : bl C = cs[k] := by rw [hC]
      have hCs : C.size = cs[k].length := by rw [← bl_len, hCb]
      rw [← hCs, ← hCb] at hst
      have hCl : C.size ≤ 100000 := by
        have h2 := flat_mem cs k hlt
        have h3 := HFL.out
        omega
      have htk : (cs.take (k + 1)).flatten = (cs.take k).flatten ++ bl C := by
        rw [List.take_succ_eq_append_getElem hlt, List.flatten_append, hCb]
        simp
      have HST := hide hst
      have HTK := hide htk
      clear hst htk hC hcv hCb hCs
      by_cases hn : (O.size : Int) + (C.size : Int) ≤ n
      · go_wp2
        go_round
        case rel =>
          refine ⟨k + 1, O ++ C, by omega, by go_num, rfl, hide ?_, hide ?_⟩
          · rw [← HA.out, HST.out, if_pos hn, ByteArray.size_append, bl_append, List.append_assoc]
          · rw [bl_append, HO.out, HTK.out]
        case measure => simp [intOf]; omega
      · go_wp2
        go_ret
        refine ⟨ret_str ?_, hb1⟩
        rw [← HA.out, HST.out, if_neg (by omega), List.append_nil, bl_mk]
    · go_wp2
      go_ret
      refine ⟨ret_str ?_, hb1⟩
      rw [← HA.out, List.drop_eq_nil_of_le (by omega), cutCh, List.append_nil, bl_mk]

theorem below3 {w w1 w2 w3 : World} (hb1 : Below w.heap.size w w1) (hb2 : Below w1.heap.size w1 w2) (hb3 : Below w2.heap.size w2 w3) : Below w.heap.size w w3 := by
  have s1 := hb1.size
  have s2 := hb2.size
  exact (hb1.trans (hb2.mono s1)).trans (hb3.mono (by omega))

set_option maxHeartbeats 1000000 in
theorem lawCuts_walk (s : ByteArray) (n : Int) (w : World) (hs : s.size ≤ maxLen) (_hn : (Lit.int .i64 n).wf = true) :
    Calls Try.prog 5 #[.string s, .int .i64 n] w fun e w' => e = .returned (.bool true) ∧ Below w.heap.size w w' := by
  by_cases hbig : 3000 < s.size
  · unfold maxLen at hs
    go_enter Try.func5, Try.ntmps5
    go_wp2_with (go_at_call 9; refine (awake_any _).mono ?_; rintro e w1 ⟨rfl, hb1⟩)
    go_ret
    exact ⟨rfl, hb1⟩
  · have C1 := hide fun w => cut_any s n w (by omega)
    have C2 := hide fun w => rcut_any s n w (by omega)
    generalize (⟨(cut (bl s) n).toArray⟩ : ByteArray) = T at *
    clear hs
    go_enter Try.func5, Try.ntmps5
    go_wp2_with fail
    refine (awake_any _).mono ?_
    rintro e w1 ⟨rfl, hb1⟩
    go_wp2_with fail
    refine (C1.out _).mono ?_
    rintro e w2 ⟨rfl, hb2⟩
    go_wp2_with fail
    refine (C2.out _).mono ?_
    rintro e w3 ⟨rfl, hb3⟩
    go_wp2_with fail
    go_ret
    exact ⟨ret_bool (by simp), below3 hb1 hb2 hb3⟩
end Go.Proofs.Ytnjdmkkifdiedaa
