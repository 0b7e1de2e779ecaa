/-
  The law TokNote, walked: it answers true at every text.
-/
import Derived.Test.YtjmgcdeinjamiabDoorB8
import Derived.Test.YtjmgcdeinjamiabDoorM3
namespace Go.Proofs.YtjmgcdeinjamiabDoor
open Go.RowKit
open Utf1

theorem index_note : ∀ (s : List UInt8), (∀ c ∈ s, c ≠ 45) → Lib.index (s ++ [45, 45, 62, 98]) [45, 45, 62] = (s.length : Int)
  | [], _ => by decide
  | c :: t, h => by
    have ih := index_note t (fun x hx => h x (List.mem_cons_of_mem _ hx))
    have hc : c ≠ 45 := h c (List.mem_cons_self ..)
    show Lib.index (c :: (t ++ [45, 45, 62, 98])) [45, 45, 62] = _
    unfold Lib.index
    rw [if_neg (by simp [Ne.symm hc]), ih, if_neg (by simp)]
    simp

theorem cut_note (s : List UInt8) (h : ∀ c ∈ s, c ≠ 45) : Lib.cut (s ++ [45, 45, 62, 98]) [45, 45, 62] = (s, [98], true) := by
  unfold Lib.cut
  rw [index_note s h, if_pos (by omega)]
  simp

theorem toks_98 : toks [98] = [⟨1, [], [], false, [98]⟩] := by kernel_rfl
theorem res_97 : res [97] = [97] := by kernel_rfl

theorem note_toks (s : List UInt8) (h : ∀ c ∈ s, c ≠ 45) : toks ([97, 60, 33, 45, 45] ++ s ++ [45, 45, 62, 98]) = [⟨1, [], [], false, [97]⟩, ⟨4, [], [], false, s⟩, ⟨1, [], [], false, [98]⟩] := by
  have e0 : [97, 60, 33, 45, 45] ++ s ++ [45, 45, 62, 98] = 97 :: 60 :: 33 :: 45 :: 45 :: (s ++ [45, 45, 62, 98]) := by simp
  have b1 : beg (60 :: 33 :: 45 :: 45 :: (s ++ [45, 45, 62, 98])) = 1 := by
    rw [beg_lt]
    unfold beg1
    simp only
    rw [if_pos (by simp [List.isPrefixOf])]
  have b0 : beg (97 :: 60 :: 33 :: 45 :: 45 :: (s ++ [45, 45, 62, 98])) = 0 := beg_ne _ (by decide)
  have st : stop (97 :: 60 :: 33 :: 45 :: 45 :: (s ++ [45, 45, 62, 98])) = 1 := by
    rw [stop_one _ _ b0, stop_zero _ _ (by rw [b1]; decide)]
  rw [e0, toks_text _ (by simp) b0, st, List.take_succ_cons, List.take_zero, res_97, List.drop_succ_cons, List.drop_zero, toks_note _ b1]
  rw [show (60 :: 33 :: 45 :: 45 :: (s ++ [45, 45, 62, 98])).drop 4 = s ++ [45, 45, 62, 98] from rfl, cut_note s h, toks_98]

theorem bl_add (a b : ByteArray) : bl (a ++ b) = bl a ++ bl b := by
  show (a ++ b).data.toList = _
  rw [ByteArray.data_append, Array.toList_append]
theorem three_of {l : List (Tk × Value)} {a b c : Tk} (h : l.map Prod.fst = [a, b, c]) : ∃ x y z, l = [(a, x), (b, y), (c, z)] := by
  match l, h with
  | [(a', x), (b', y), (c', z)], h =>
    simp at h
    obtain ⟨rfl, rfl, rfl⟩ := h
    exact ⟨x, y, z, rfl⟩

set_option maxHeartbeats 4000000 in
theorem lawNote (s : ByteArray) (w : World) (hg : Glob w) (hgm : GlobM w) : Calls Tryd.prog 3 #[.string s] w fun e w' => e = .returned (.bool true) ∧ Below w.heap.size w w' := by
  have HG := hide (And.intro hg hgm)
  clear hg hgm
  by_cases hs : 1000 < s.size
  · go_enter Tryd.func3, Tryd.ntmps3
    go_wp2_with fail
    refine (awake_any _ HG.out.1 HG.out.2).mono ?_
    rintro e w1 ⟨rfl, hb1⟩
    go_wp2_with fail
    go_ret
    exact ⟨rfl, hb1⟩
  have hs : s.size ≤ 1000 := by omega
  go_enter Tryd.func3, Tryd.ntmps3
  go_wp2_with fail
  refine (awake_any _ HG.out.1 HG.out.2).mono ?_
  rintro e w1 ⟨rfl, hb1⟩
  have HB1 := hide hb1
  clear hb1
  go_wp2_with fail
  go_loopg [4] s.size (fun g v wr => ∃ p : Nat, p + g = s.size ∧ v = .int .i64 (p : Int) ∧ wr = w1 ∧ Hid (∀ c ∈ (bl s).take p, c ≠ 45))
  case atStart => exact ⟨0, by omega, rfl, rfl, hide (by simp)⟩
  case round =>
    obtain ⟨p, hpg, rfl, rfl, HS⟩ := hrel
    by_cases hlt : p < s.size
    · have hge : (bl s)[p]? = some ((bl s)[p]'(by rw [bl_len]; exact hlt)) := List.getElem?_eq_getElem _
      generalize (bl s)[p]'(by rw [bl_len]; exact hlt) = c at hge
      have i00 := fun w => idxK hge w
      have z0 := u8b c 45 (by decide)
      obtain ⟨z, hz⟩ : ∃ z : Int, z = (c.toNat : Int) := ⟨_, rfl⟩
      rw [← hz] at z0
      have i0 : ∀ w, (Instr.index 9 (.string s) (.int .i64 (p : Int))).run Tryd.prog w = .ok (.int .u8 z) w := by
        rw [hz]
        exact i00
      clear hz i00
      have z0 : (z == 45) = decide (c = 45) := z0
      by_cases hc : c = 45
      · rw [decide_eq_true hc] at z0
        clear hge hc HS
        go_wp2_with fail
        go_ret
        exact ⟨rfl, HB1.out⟩
      · rw [decide_eq_false hc] at z0
        have HN : Hid (∀ c ∈ (bl s).take (p + 1), c ≠ 45) := hide (by
          intro x hx
          rw [List.take_add_one, hge] at hx
          rcases List.mem_append.1 hx with hx | hx
          · exact HS.out x hx
          · have : x = c := by simpa using hx
            rw [this]
            exact hc)
        clear hge hc HS
        go_wp2_with fail
        go_roundg (gk - 1)
        case measure => omega
        case rel => exact ⟨p + 1, by omega, by first | rfl | simp, rfl, HN⟩
    · have hno : ∀ c ∈ bl s, c ≠ 45 := by
        have := HS.out
        rw [List.take_of_length_le (by rw [bl_len]; omega)] at this
        exact this
      have hbx : bl (({ data := #[97, 60, 33, 45, 45] } : ByteArray) ++ s ++ { data := #[45, 45, 62, 98] }) = [97, 60, 33, 45, 45] ++ bl s ++ [45, 45, 62, 98] := by
        rw [bl_add, bl_add]
      have hxs : (({ data := #[97, 60, 33, 45, 45] } : ByteArray) ++ s ++ { data := #[45, 45, 62, 98] }).size ≤ 4294967280 := by
        rw [← bl_len, hbx]
        simp
        omega
      have ht := fun w hg hgm => tokens_any (({ data := #[97, 60, 33, 45, 45] } : ByteArray) ++ s ++ { data := #[45, 45, 62, 98] }) w hxs hg hgm
      rw [hbx, note_toks _ hno] at ht
      have HTT := hide ht
      clear HS hno ht hbx hxs
      go_wp2_with fail
      refine (HTT.out _ (HG.out.1.below HB1.out) (HG.out.2.below HB1.out)).mono ?_
      rintro e w2 ⟨v, l, rfl, hl, htk, hb2⟩
      obtain ⟨x, y, z, rfl⟩ := three_of hl
      obtain ⟨g, cap, rfl, -⟩ := toks_slice htk (by simp)
      have c4 : w2.cell? ⟨g, 4, none⟩ = some (.string ⟨#[97]⟩) := tok_at htk 0 _ rfl 4 (by decide)
      have c5 : w2.cell? ⟨g, 5, none⟩ = some (.int .i64 4) := tok_at htk 1 _ rfl 0 (by decide)
      have c9 : w2.cell? ⟨g, 9, none⟩ = some (.string ⟨(bl s).toArray⟩) := tok_at htk 1 _ rfl 4 (by decide)
      have c14 : w2.cell? ⟨g, 14, none⟩ = some (.string ⟨#[98]⟩) := tok_at htk 2 _ rfl 4 (by decide)
      rw [bl_eta] at c9
      clear hl htk
      go_wp2_with fail
      go_ret
      exact ⟨rfl, bel2 HB1.out hb2⟩
end Go.Proofs.YtjmgcdeinjamiabDoor
