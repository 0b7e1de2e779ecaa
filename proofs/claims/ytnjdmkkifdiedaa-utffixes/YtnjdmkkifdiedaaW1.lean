/-
  The walks of package utf: what each of its functions answers, in the words of the plain mathematics.
-/
import Derived.Test.YtnjdmkkifdiedaaShelf
import Derived.Test.YtnjdmkkifdiedaaMath
import Derived.WalkKit
import Derived.WalkSpells
import Derived.WalkLawsBesides
import Derived.BigCall
import Derived.Laws.IdiomStrings
namespace Go.Proofs.Ytnjdmkkifdiedaa
open Go.RowKit
open Utf1

/-- A text's bytes as a list. -/
abbrev bl (s : ByteArray) : List UInt8 := s.data.toList
theorem bl_len (s : ByteArray) : (bl s).length = s.size := Array.length_toList

/-- 'next' where a rune is at hand. -/
theorem next_some (P : Program) (w : World) (k : Nat) (s : ByteArray) (pos : Nat) (hk : w.heap[k]? = some (.stringIter s pos)) (h : pos < s.size) :
    ∃ r wd : Nat, 1 ≤ wd ∧ wd ≤ 4 ∧ pos + wd ≤ s.size ∧ r ≤ 1114111 ∧ dl ((bl s).drop pos) = (r, wd) ∧ (∀ ty, (Instr.next (.pointer (some ⟨k, 0, none⟩)) true ty).run P w =
      .ok (.tuple #[.bool true, .int .i64 pos, .int .i32 r]) (w.iterAt k s (pos + wd))) := by
  have hne : (bl s).drop pos ≠ [] := by
    intro e
    have := congrArg List.length e
    rw [List.length_drop, bl_len] at this
    simp at this
    omega
  have hw := dl_width _ hne
  have hsc := dl_scalar _ hne
  rw [List.length_drop, bl_len] at hw
  refine ⟨(dl ((bl s).drop pos)).1, (dl ((bl s).drop pos)).2, hw.1, hw.2.1, by omega, by unfold Scalar at hsc; omega, rfl, fun ty => ?_⟩
  rw [Lib.run_next_any_at w k s pos ty hk h, decode_dl s pos h]

theorem drop_ne (s : ByteArray) (pos : Nat) (h : pos < s.size) : (bl s).drop pos ≠ [] := by
  intro e
  have := congrArg List.length e
  rw [List.length_drop, bl_len] at this
  simp at this
  omega

theorem drop_all (s : ByteArray) (pos : Nat) (h : ¬ pos < s.size) : (bl s).drop pos = [] := by
  rw [List.drop_eq_nil_iff, bl_len]
  omega

theorem runes_drop (s : ByteArray) (pos r wd : Nat) (h : pos < s.size) (hd : dl ((bl s).drop pos) = (r, wd)) : runes ((bl s).drop pos) = r :: runes ((bl s).drop (pos + wd)) := by
  rw [runes_step _ (drop_ne s pos h), hd, List.drop_drop]

theorem hide {p : Prop} (h : p) : Hid p := h

theorem ret_int {k : IntKind} {a b : Int} (h : a = b) : Ending.returned (.int k a) = .returned (.int k b) := by rw [h]

set_option maxHeartbeats 1000000 in
theorem many_any (s : ByteArray) (w : World) (hs : s.size ≤ maxLen) :
    Calls Try.prog 14 #[.string s] w fun e w' => e = .returned (.int .i64 ((runes (bl s)).length : Nat)) ∧ Below w.heap.size w w' := by
  unfold maxLen at hs
  go_enter Try.func14, Try.ntmps14
  go_wp2
  go_loopw [3] (fun n wr => ∃ (pos k : Nat), n = .int .i64 k ∧ pos ≤ s.size ∧ wr.heap[w.heap.size]? = some (.stringIter s pos) ∧ Below w.heap.size w wr ∧ k + (runes ((bl s).drop pos)).length = (runes (bl s)).length ∧ k ≤ pos) (fun _ wr => s.size - wr.iterPos w.heap.size)
  case atStart =>
    exact ⟨0, 0, rfl, Nat.zero_le _, World.iter_heap w s 0, (Below.refl _ w).alloc (Nat.le_refl _) _, by simp, Nat.le_refl _⟩
  case round =>
    obtain ⟨pos, k, rfl, hp, hit, hbw, hk, hkp⟩ := hrel
    by_cases hlt : pos < s.size
    · obtain ⟨r, wd, hw1, hw4, hwl, hr, hdl, hnx⟩ := next_some Try.prog wr w.heap.size s pos hit hlt
      have hrun := runes_drop s pos r wd hlt hdl
      have hit2 := Lib.iterAt_heap wr w.heap.size s pos (pos + wd) hit
      have hbw2 := Lib.below_iterAt hbw (k := w.heap.size) (Nat.le_refl _) s (pos + wd)
      have HR := hide hrun
      have HD := hide hdl
      have HK := hide hk
      clear hrun hdl hk
      go_wp2
      go_roundw
      case rel =>
        have hk := HK.out
        rw [HR.out, List.length_cons] at hk
        exact ⟨pos + wd, k + 1, by go_num, hwl, hit2, hbw2, by omega, by omega⟩
      case measure =>
        simp only [World.iterPos, hit2, hit]
        omega
    · have hnx : ∀ ty, (Instr.next (.pointer (some ⟨w.heap.size, 0, none⟩)) true ty).run Try.prog wr = _ := fun ty => Lib.run_next_end_at wr w.heap.size s pos ty hit hlt
      have HK := hide hk
      clear hk
      go_wp2
      go_ret
      have hk := HK.out
      rw [drop_all s pos hlt, runes_nil] at hk
      exact ⟨ret_int (by simp at hk; omega), hbw⟩

end Go.Proofs.Ytnjdmkkifdiedaa
