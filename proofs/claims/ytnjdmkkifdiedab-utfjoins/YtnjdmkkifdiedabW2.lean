/-
  What utf.right, utf.Valid, strings.Clone and utf.Cut answer, in the words of the plain mathematics of texts.
-/
import Derived.Test.YtnjdmkkifdiedabW1
namespace Go.Proofs.Ytnjdmkkifdiedab
open Go.RowKit
open Utf1

theorem ret_bool {a b : Bool} (h : a = b) : Ending.returned (.bool a) = .returned (.bool b) := by rw [h]
theorem ret_str {a b : ByteArray} (h : a = b) : Ending.returned (.string a) = .returned (.string b) := by rw [h]

/-- 'right' at a rune other than U+FFFD. -/
theorem right_other (s : ByteArray) (pos r : Nat) (w : World) (hr : r ≠ 65533) :
    Calls Try.prog 11 #[.string s, .int .i64 pos, .int .i32 r] w fun e w' => e = .returned (.bool true) ∧ w = w' := by
  have h1 : ((r : Int) != 65533) = true := by rw [bne_iff_ne]; omega
  go_enter Try.func11, Try.ntmps11
  go_wp2
  go_ret
  exact ⟨rfl, rfl⟩

/-- 'right' at U+FFFD. -/
theorem right_fffd (s : ByteArray) (pos : Nat) (w : World) (hp : pos ≤ s.size) :
    Calls Try.prog 11 #[.string s, .int .i64 pos, .int .i32 65533] w fun e w' => e = .returned (.bool (Lib.hasPrefix ((bl s).drop pos) [239, 191, 189])) ∧ w = w' := by
  have h1 : ((65533 : Int) != 65533) = false := by decide
  have ht : List.take (s.size - pos) (List.drop pos s.data.toList) = (bl s).drop pos := by
    rw [List.take_of_length_le]
    rw [List.length_drop, bl_len]
    exact Nat.le_refl _
  have HT := hide ht
  clear ht
  go_enter Try.func11, Try.ntmps11
  go_wp2_with (go_at_call 16; refine (Try.strings_HasPrefix _ _ _).mono ?_; rintro e w' ⟨rfl, rfl⟩)
  go_ret
  exact ⟨ret_bool (by rw [HT.out]), rfl⟩

theorem rt_hasPrefix (l : List UInt8) (hl : l ≠ []) (wd : Nat) (hd : dl l = (65533, wd)) : Lib.hasPrefix l [239, 191, 189] = decide (rt l ≠ 0) := by
  rw [Bool.eq_iff_iff, decide_eq_true_eq, right_iff l hl, hd]
  unfold Lib.hasPrefix
  rw [List.isPrefixOf_iff_prefix]
  simp

theorem right_any (s : ByteArray) (pos r wd : Nat) (w : World) (hlt : pos < s.size) (hd : dl ((bl s).drop pos) = (r, wd)) :
    Calls Try.prog 11 #[.string s, .int .i64 pos, .int .i32 r] w fun e w' => e = .returned (.bool (decide (rt ((bl s).drop pos) ≠ 0))) ∧ w = w' := by
  by_cases hr : r = 65533
  · subst hr
    rw [← rt_hasPrefix _ (drop_ne s pos hlt) wd hd]
    exact right_fffd s pos w (by omega)
  · have : decide (rt ((bl s).drop pos) ≠ 0) = true := by
      rw [decide_eq_true_eq, right_iff _ (drop_ne s pos hlt), hd]
      exact .inl hr
    rw [this]
    exact right_other s pos r w hr

theorem valid_nil : valid [] = true := by
  unfold valid
  rw [runes_nil]
  rfl

theorem valid_drop (s : ByteArray) (pos r wd : Nat) (h : pos < s.size) (hd : dl ((bl s).drop pos) = (r, wd)) : valid ((bl s).drop pos) = (decide (rt ((bl s).drop pos) ≠ 0) && valid ((bl s).drop (pos + wd))) := by
  rw [valid_step _ (drop_ne s pos h), hd, List.drop_drop]

set_option maxHeartbeats 1000000 in
theorem valid_any (s : ByteArray) (w : World) :
    Calls Try.prog 6 #[.string s] w fun e w' => e = .returned (.bool (valid (bl s))) ∧ Below w.heap.size w w' := by
  go_enter Try.func6, Try.ntmps6
  go_wp2
  go_loopw [] (fun wr => ∃ (pos : Nat), pos ≤ s.size ∧ wr.heap[w.heap.size]? = some (.stringIter s pos) ∧ Below w.heap.size w wr ∧ Hid (valid ((bl s).drop pos) = valid (bl s))) (fun wr => s.size - wr.iterPos w.heap.size)
  case atStart =>
    exact ⟨0, Nat.zero_le _, World.iter_heap w s 0, (Below.refl _ w).alloc (Nat.le_refl _) _, hide rfl⟩
  case round =>
    obtain ⟨pos, hp, hit, hbw, HV⟩ := hrel
    by_cases hlt : pos < s.size
    · obtain ⟨r, wd, hw1, hw4, hwl, hr, hdl, hnx⟩ := next_some Try.prog wr w.heap.size s pos hit hlt
      have HVS := hide (valid_drop s pos r wd hlt hdl)
      have hit2 := Lib.iterAt_heap wr w.heap.size s pos (pos + wd) hit
      have hbw2 := Lib.below_iterAt hbw (k := w.heap.size) (Nat.le_refl _) s (pos + wd)
      have hcall := fun w => right_any s pos r wd w hlt hdl
      have HD := hide hdl
      clear hdl
      cases hb : decide (rt ((bl s).drop pos) ≠ 0) with
      | true =>
        rw [hb] at hcall
        have HB := hide hb
        clear hb
        go_wp2_with (go_at_call 11; refine (hcall _).mono ?_; rintro e w1 ⟨rfl, rfl⟩)
        go_roundw
        case rel =>
          refine ⟨pos + wd, hwl, hit2, hbw2, hide ?_⟩
          rw [← HV.out, HVS.out, HB.out, Bool.true_and]
        case measure =>
          simp only [World.iterPos, hit2, hit]
          omega
      | false =>
        rw [hb] at hcall
        have HB := hide hb
        clear hb
        go_wp2_with (go_at_call 11; refine (hcall _).mono ?_; rintro e w1 ⟨rfl, rfl⟩)
        go_ret
        refine ⟨ret_bool ?_, hbw2⟩
        rw [← HV.out, HVS.out, HB.out, Bool.false_and]
    · have hnx : ∀ ty, (Instr.next (.pointer (some ⟨w.heap.size, 0, none⟩)) true ty).run Try.prog wr = _ := fun ty => Lib.run_next_end_at wr w.heap.size s pos ty hit hlt
      go_wp2
      go_ret
      refine ⟨ret_bool ?_, hbw⟩
      rw [← HV.out, drop_all s pos hlt, valid_nil]

theorem clone_any (s : ByteArray) (w : World) (hlim : s.size ≤ 281474976710656) :
    Calls Try.prog 15 #[.string s] w fun e w' => e = .returned (.string s) ∧ Below w.heap.size w w' := by
  go_enter Try.func15, Try.ntmps15
  go_wp2_with (go_at_call 19; refine (Try.stringslite_Clone _ _ hlim).mono ?_; rintro e w' ⟨rfl, hb⟩)
  go_ret
  exact ⟨rfl, hb⟩

theorem cut_drop (s : ByteArray) (n : Int) (pos e r wd : Nat) (h : pos < s.size) (hd : dl ((bl s).drop pos) = (r, wd)) :
    cutF n pos e ((bl s).drop pos) = if n < (pos : Int) then e else cutF n (pos + wd) pos ((bl s).drop (pos + wd)) := by
  rw [cutF_step _ _ _ _ (drop_ne s pos h), hd, List.drop_drop]

theorem extract_take (s : ByteArray) (e : Nat) : s.extract 0 e = ⟨((bl s).take e).toArray⟩ := by
  apply ByteArray.ext
  apply Array.toList_inj.1
  rw [Lib.extract_data]
  simp

theorem cut_all_any (s : ByteArray) (n : Int) (w : World) (hs : s.size ≤ 281474976710656) (h : (s.size : Int) ≤ n) :
    Calls Try.prog 9 #[.string s, .int .i64 n] w fun e w' => e = .returned (.string s) ∧ Below w.heap.size w w' := by
  go_enter Try.func9, Try.ntmps9
  go_wp2_with (go_at_call 15; refine (clone_any _ _ hs).mono ?_; rintro e w' ⟨rfl, hb⟩)
  go_ret
  exact ⟨rfl, hb⟩

set_option maxHeartbeats 1000000 in
theorem cut_some_any (s : ByteArray) (n : Int) (w : World) (hs : s.size ≤ 281474976710656) (h : n < (s.size : Int)) :
    Calls Try.prog 9 #[.string s, .int .i64 n] w fun e w' => e = .returned (.string ⟨(cut (bl s) n).toArray⟩) ∧ Below w.heap.size w w' := by
  have HF := hide (cut_loop (bl s) n (by rw [bl_len]; exact h))
  go_enter Try.func9, Try.ntmps9
  go_wp2
  go_loopw [5] (fun v wr => ∃ (pos ed : Nat), v = .int .i64 ed ∧ ed ≤ pos ∧ pos ≤ s.size ∧ wr.heap[w.heap.size]? = some (.stringIter s pos) ∧ Below w.heap.size w wr ∧ Hid (cutF n pos ed ((bl s).drop pos) = cutF n 0 0 (bl s))) (fun _ wr => s.size - wr.iterPos w.heap.size)
  case atStart =>
    exact ⟨0, 0, rfl, Nat.le_refl _, Nat.zero_le _, World.iter_heap w s 0, (Below.refl _ w).alloc (Nat.le_refl _) _, hide rfl⟩
  case round =>
    obtain ⟨pos, ed, rfl, hed, hp, hit, hbw, HV⟩ := hrel
    have fin : ∀ (wx : World), Below w.heap.size w wx → Hid (cutF n 0 0 (bl s) = ed) → Calls Try.prog 15 #[.string (s.extract 0 ed)] wx fun e w' => e = .returned (.string ⟨(cut (bl s) n).toArray⟩) ∧ Below w.heap.size w w' := by
      intro wx hbx hcx
      have hsz : (s.extract 0 ed).size ≤ 281474976710656 := by simp; omega
      refine (clone_any _ _ hsz).mono ?_
      rintro e w' ⟨rfl, hb⟩
      refine ⟨?_, hbx.trans (hb.mono hbx.size)⟩
      rw [extract_take, ← HF.out, hcx.out]
    by_cases hlt : pos < s.size
    · obtain ⟨r, wd, hw1, hw4, hwl, hr, hdl, hnx⟩ := next_some Try.prog wr w.heap.size s pos hit hlt
      have HC := hide (cut_drop s n pos ed r wd hlt hdl)
      have hit2 := Lib.iterAt_heap wr w.heap.size s pos (pos + wd) hit
      have hbw2 := Lib.below_iterAt hbw (k := w.heap.size) (Nat.le_refl _) s (pos + wd)
      have HD := hide hdl
      clear hdl
      by_cases hn : n < (pos : Int)
      · have HE : Hid (cutF n 0 0 (bl s) = ed) := hide (by rw [← HV.out, HC.out, if_pos hn])
        go_wp2_with (go_at_call 15; refine (fin _ hbw2 HE).mono ?_; rintro e w' ⟨rfl, hb⟩)
        go_ret
        exact ⟨rfl, hb⟩
      · go_wp2
        go_roundw
        case rel =>
          refine ⟨pos + wd, pos, rfl, by omega, hwl, hit2, hbw2, hide ?_⟩
          rw [← HV.out, HC.out, if_neg hn]
        case measure =>
          simp only [World.iterPos, hit2, hit]
          omega
    · have hnx : ∀ ty, (Instr.next (.pointer (some ⟨w.heap.size, 0, none⟩)) true ty).run Try.prog wr = _ := fun ty => Lib.run_next_end_at wr w.heap.size s pos ty hit hlt
      have HE : Hid (cutF n 0 0 (bl s) = ed) := hide (by rw [← HV.out, drop_all s pos hlt, cutF_nil])
      go_wp2_with (go_at_call 15; refine (fin _ hbw HE).mono ?_; rintro e w' ⟨rfl, hb⟩)
      go_ret
      exact ⟨rfl, hb⟩

theorem bl_mk (s : ByteArray) : (⟨(bl s).toArray⟩ : ByteArray) = s := by
  apply ByteArray.ext
  simp [bl]

theorem cut_any (s : ByteArray) (n : Int) (w : World) (hs : s.size ≤ 281474976710656) :
    Calls Try.prog 9 #[.string s, .int .i64 n] w fun e w' => e = .returned (.string ⟨(cut (bl s) n).toArray⟩) ∧ Below w.heap.size w w' := by
  by_cases h : (s.size : Int) ≤ n
  · rw [cut_all _ _ (by rw [bl_len]; exact h), bl_mk]
    exact cut_all_any s n w hs h
  · exact cut_some_any s n w hs (by omega)
end Go.Proofs.Ytnjdmkkifdiedab
