/-
  What the document's own Chars answers, in the words of the plain mathematics.
-/
import Derived.Test.YtholfdfjapgfbaaE2
import Derived.Lib.AppendStr
namespace Go.Proofs.Ytholfdfjapgfbaa
open Go.RowKit
open Utf1

theorem rt_le (l : List UInt8) : rt l ≤ 4 ∧ rt l ≤ l.length := by
  by_cases h : rt l = 0
  · omega
  · obtain ⟨r, t, _, he, _, hr⟩ := dl_good l h
    have := er_len r
    rw [hr]
    refine ⟨this.2, ?_⟩
    have := congrArg List.length he
    rw [List.length_append] at this
    omega
theorem dl_rt (l : List UInt8) (h : rt l ≠ 0) : (dl l).2 = rt l := by
  obtain ⟨r, t, _, _, hd, hr⟩ := dl_good l h
  rw [hd, hr]

/-- A text's characters, in at most so many steps. -/
def chsF : Nat → List UInt8 → List (List UInt8)
  | 0, _ => []
  | n + 1, l => if l = [] then [] else l.take (dl l).2 :: chsF n (l.drop (dl l).2)
/-- A text's characters. -/
def chs (l : List UInt8) : List (List UInt8) := chsF l.length l
theorem chsF_more : ∀ (n m : Nat) (l : List UInt8), l.length ≤ n → l.length ≤ m → chsF n l = chsF m l
  | 0, m, l, hn, _ => by
    have : l = [] := List.length_eq_zero_iff.1 (by omega)
    subst this
    cases m <;> simp [chsF]
  | n + 1, 0, l, _, hm => by
    have : l = [] := List.length_eq_zero_iff.1 (by omega)
    subst this
    simp [chsF]
  | n + 1, m + 1, l, hn, hm => by
    rw [chsF, chsF]
    by_cases hl : l = []
    · rw [if_pos hl, if_pos hl]
    · have hw := dl_width l hl
      rw [if_neg hl, if_neg hl, chsF_more n m _ (by simp; omega) (by simp; omega)]
theorem chs_step (l : List UInt8) (hl : l ≠ []) : chs l = l.take (dl l).2 :: chs (l.drop (dl l).2) := by
  have hw := dl_width l hl
  unfold chs
  obtain ⟨k, hk⟩ : ∃ k, l.length = k + 1 := ⟨l.length - 1, by omega⟩
  rw [hk, chsF, if_neg hl, chsF_more k (l.drop (dl l).2).length _ (by simp; omega) (Nat.le_refl _)]
theorem chs_nil : chs [] = [] := rfl
theorem chs_len (l : List UInt8) : (chs l).length = (runes l).length := by
  induction h : l.length using Nat.strongRecOn generalizing l with
  | ind m ih =>
    by_cases hl : l = []
    · subst hl; rfl
    · have hw := dl_width l hl
      rw [chs_step l hl, runes_step l hl, List.length_cons, List.length_cons, ih (l.drop (dl l).2).length (by simp; omega) _ rfl]

/-- Characters as cells. -/
def strCellsOf (cs : List (List UInt8)) : List Value := cs.map fun c => .string ⟨c.toArray⟩
theorem info_str : (Try.prog.info? 9).map (fun i => (i.zero, i.size, i.bytes)) = some (some (.string ⟨#[]⟩), 1, 16) := by kernel_rfl

theorem extract_mid (s : ByteArray) (a b : Nat) : s.extract a b = ⟨(((bl s).drop a).take (b - a)).toArray⟩ := by
  apply ByteArray.ext
  apply Array.toList_inj.1
  rw [Lib.extract_data]

theorem own_ge {w : World} {B : Nat} {e : TypeId} {sz : Nat} {v : Value} {n : Nat} {xs : List Value} (h : w.ownsRow B e sz v n xs) : ∀ k, v.ownBlock = some k → B ≤ k := by
  intro k hk
  rcases h.2 with ⟨rfl, _⟩ | ⟨g, cap, cur, rfl, hg, _⟩
  · simp [Value.ownBlock] at hk
  · simp [Value.ownBlock] at hk
    omega

set_option maxHeartbeats 1000000 in
theorem rchars_any (s : ByteArray) (w : World) (hs : s.size ≤ 100000) :
    Calls Try.prog 25 #[.string s] w fun e w' => ∃ v, e = .returned v ∧ w'.ownsRow w.heap.size 9 1 v (chs (bl s)).length (strCellsOf (chs (bl s))) ∧ Below w.heap.size w w' := by
  obtain ⟨i0, hi, hz0, hz1, hz2⟩ := info_parts info_str
  go_enter Try.func25, Try.ntmps25
  go_wp2
  go_loopw [3, 4] (fun v i wr => ∃ (pos : Nat) (acc : List (List UInt8)), pos ≤ s.size ∧ i = .int .i64 pos ∧ wr.ownsRow w.heap.size 9 1 v acc.length (strCellsOf acc) ∧ Below w.heap.size w wr ∧ Hid (acc ++ chs ((bl s).drop pos) = chs (bl s)) ∧ acc.length ≤ pos) (fun _ i _ => s.size - (intOf i).toNat)
  case atStart => exact ⟨0, [], Nat.zero_le _, rfl, World.ownsRow_nil _ _ _ _, Below.refl _ _, hide rfl, Nat.le_refl _⟩
  case round =>
    obtain ⟨pos, acc, hp, rfl, hown, hbw, HA, hal⟩ := hrel
    by_cases hlt : pos < s.size
    · have hc := fun w => right_ref s pos w hs hlt
      have hle := rt_le ((bl s).drop pos)
      have hst := chs_step _ (drop_ne s pos hlt)
      rw [dl_snd _ (drop_ne s pos hlt)] at hst
      rw [List.length_drop, bl_len] at hle
      have HC := hide hc
      obtain ⟨hr4, hrs⟩ := hle
      clear hc
      by_cases h0 : rt ((bl s).drop pos) = 0
      · rw [h0] at HC hst
        have HST : Hid (chs ((bl s).drop pos) = ((bl s).drop pos).take 1 :: chs (((bl s).drop pos).drop 1)) := hst
        clear hst h0 hr4 hrs
        go_wp2_with (first
          | (go_at_call 31; refine (HC.out _).mono ?_; rintro e w1 ⟨rfl, rfl⟩)
          | (at_builtin; refine wpList_append_own _ rfl (.tmp 14) (.tmp 21) 55 rfl w.heap.size 9 i0 (.string ⟨#[]⟩) 1 16 Try.underlying55 hi hz0 hz1 hz2 rfl (by decide) _ _ _ rfl (hown.alloc _) ⟨wr.heap.size, 0, none⟩ 1 1 [.string (s.extract pos (pos + 1))] rfl rfl ?_ ?_ ?_ ?_ ?_ ?_))
        · intro j u hj
          match j, hj with
          | 0, hj => simp at hj; subst hj; simp [Addr.add]; exact congrArg (s.extract pos) (by omega)
        · intro u hu; simp at hu; subst hu; rfl
        · unfold maxLen; omega
        · omega
        · have := hbw.size; simp; omega
        · intro v' w1 hown' hgrow _
          have hb2 : Below w.heap.size w w1 := (hbw.alloc hbw.size _).grown hgrow (by have := hbw.size; simp; omega) (own_ge hown)
          have hown2 : w1.ownsRow w.heap.size 9 1 v' (acc ++ [((bl s).drop pos).take 1]).length (strCellsOf (acc ++ [((bl s).drop pos).take 1])) := by
            have e : strCellsOf (acc ++ [((bl s).drop pos).take 1]) = strCellsOf acc ++ [.string (s.extract pos (pos + 1))] := by
              rw [extract_mid, Nat.add_sub_cancel_left]
              simp [strCellsOf]
            rw [e, List.length_append]
            exact hown'
          have HO := hide hown2
          clear hown' hgrow hown hown2
          go_wp2
          go_roundw
          case rel =>
            refine ⟨pos + 1, acc ++ [((bl s).drop pos).take 1], by omega, by go_num, HO.out, hb2, hide ?_, by simp; omega⟩
            rw [← HA.out, HST.out, List.append_assoc, List.drop_drop]
            rfl
          case measure => simp [intOf]; omega
      · have e : max (rt ((bl s).drop pos)) 1 = rt ((bl s).drop pos) := by omega
        rw [e] at hst
        generalize rt ((bl s).drop pos) = r at *
        have h1 : 1 ≤ r := by omega
        have HST := hide hst
        clear hst h0 e
        go_wp2_with (first
          | (go_at_call 31; refine (HC.out _).mono ?_; rintro e w1 ⟨rfl, rfl⟩)
          | (at_builtin; refine wpList_append_own _ rfl (.tmp 14) (.tmp 21) 55 rfl w.heap.size 9 i0 (.string ⟨#[]⟩) 1 16 Try.underlying55 hi hz0 hz1 hz2 rfl (by decide) _ _ _ rfl (hown.alloc _) ⟨wr.heap.size, 0, none⟩ 1 1 [.string (s.extract pos (pos + r))] rfl rfl ?_ ?_ ?_ ?_ ?_ ?_))
        · intro j u hj
          match j, hj with
          | 0, hj => simp at hj; subst hj; simp [Addr.add]; exact congrArg (s.extract pos) (by omega)
        · intro u hu; simp at hu; subst hu; rfl
        · unfold maxLen; omega
        · omega
        · have := hbw.size; simp; omega
        · intro v' w1 hown' hgrow _
          have hb2 : Below w.heap.size w w1 := (hbw.alloc hbw.size _).grown hgrow (by have := hbw.size; simp; omega) (own_ge hown)
          have hown2 : w1.ownsRow w.heap.size 9 1 v' (acc ++ [((bl s).drop pos).take r]).length (strCellsOf (acc ++ [((bl s).drop pos).take r])) := by
            have e : strCellsOf (acc ++ [((bl s).drop pos).take r]) = strCellsOf acc ++ [.string (s.extract pos (pos + r))] := by
              rw [extract_mid, Nat.add_sub_cancel_left]
              simp [strCellsOf]
            rw [e, List.length_append]
            exact hown'
          have HO := hide hown2
          clear hown' hgrow hown hown2
          go_wp2
          go_roundw
          case rel =>
            refine ⟨pos + r, acc ++ [((bl s).drop pos).take r], by omega, by go_num, HO.out, hb2, hide ?_, by simp; omega⟩
            rw [← HA.out, HST.out, List.append_assoc, List.drop_drop]
            rfl
          case measure => simp [intOf]; omega
    · go_wp2
      go_ret
      have := HA.out
      rw [drop_all s pos hlt, chs_nil, List.append_nil] at this
      subst this
      exact ⟨_, rfl, hown, hbw⟩
end Go.Proofs.Ytholfdfjapgfbaa
