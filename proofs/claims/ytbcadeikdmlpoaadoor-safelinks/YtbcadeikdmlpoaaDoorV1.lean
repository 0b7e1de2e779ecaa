/-
  Texts as lists of bytes, and the walk over their runes.
-/
import Derived.Test.YtbcadeikdmlpoaaDoorG00
namespace Go.Proofs.YtbcadeikdmlpoaaDoor.Dm
open Go.RowKit
open Utf1

/-- 'next' where a rune is at hand. -/
theorem next_some (P : Program) (w : World) (k : Nat) (s : ByteArray) (pos : Nat) (hk : w.heap[k]? = some (.stringIter s pos)) (h : pos < s.size) :
    ∃ r wd : Nat, 1 ≤ wd ∧ wd ≤ 4 ∧ pos + wd ≤ s.size ∧ r ≤ 1114111 ∧ dl ((bl s).drop pos) = (r, wd) ∧ (∀ ty, (Instr.next (.pointer (some ⟨k, 0, none⟩)) true ty).run P w =
      .ok (.tuple #[.bool true, .int .i64 pos, .int .i32 r]) (w.iterAt k s (pos + wd))) := by
  have hne : (bl s).drop pos ≠ [] := by
    intro e
    have := congrArg List.length e
    rw [List.length_drop, bl_len] at this
    simp at this
    omega
  have hw := dl_width _ hne
  have hsc := dl_scalar _ hne
  rw [List.length_drop, bl_len] at hw
  refine ⟨(dl ((bl s).drop pos)).1, (dl ((bl s).drop pos)).2, hw.1, hw.2.1, by omega, by unfold Scalar at hsc; omega, rfl, fun ty => ?_⟩
  rw [Lib.run_next_any_at w k s pos ty hk h, decode_dl s pos h]

theorem drop_ne (s : ByteArray) (pos : Nat) (h : pos < s.size) : (bl s).drop pos ≠ [] := by
  intro e
  have := congrArg List.length e
  rw [List.length_drop, bl_len] at this
  simp at this
  omega

theorem drop_all (s : ByteArray) (pos : Nat) (h : ¬ pos < s.size) : (bl s).drop pos = [] := by
  rw [List.drop_eq_nil_iff, bl_len]
  omega

theorem runes_drop (s : ByteArray) (pos r wd : Nat) (h : pos < s.size) (hd : dl ((bl s).drop pos) = (r, wd)) : runes ((bl s).drop pos) = r :: runes ((bl s).drop (pos + wd)) := by
  rw [runes_step _ (drop_ne s pos h), hd, List.drop_drop]

theorem extract_take (s : ByteArray) (e : Nat) : s.extract 0 e = ⟨((bl s).take e).toArray⟩ := by
  apply ByteArray.ext
  apply Array.toList_inj.1
  rw [Lib.extract_data]
  simp

theorem idx_run (s : ByteArray) (pos k : Nat) (h : pos + k < s.size) (w : World) :
    (Instr.index 9 (.string s) (.int .i64 ((pos + k : Nat) : Int))).run Tryd.prog w = .ok (.int .u8 (atN ((bl s).drop pos) k : Nat)) w := by
  have e : atN ((bl s).drop pos) k = (s[pos + k]'h).toNat := by
    unfold atN
    have hk : pos + k < (bl s).length := by rw [bl_len]; exact h
    rw [List.getD_eq_getElem?_getD, List.getElem?_drop, List.getElem?_eq_getElem hk]
    rfl
  rw [e]
  have hh : 0 ≤ ((pos + k : Nat) : Int) ∧ ((pos + k : Nat) : Int) < (s.size : Int) := by omega
  have := run_index_string (P := Tryd.prog) w 9 s .i64 ((pos + k : Nat) : Int) Tryd.underlying9
  rw [this, dif_pos hh]
  rfl

end Go.Proofs.YtbcadeikdmlpoaaDoor.Dm
