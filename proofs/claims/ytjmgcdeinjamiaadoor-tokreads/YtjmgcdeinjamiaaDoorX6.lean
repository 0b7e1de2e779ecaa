/-
  What the document's own Lower answers.
-/
import Derived.Test.YtjmgcdeinjamiaaDoorX5
import Derived.Lib.AppendStr
namespace Go.Proofs.YtjmgcdeinjamiaaDoor.Doc
open Go.RowKit
open Utf1

theorem keep1 (s : ByteArray) (pos : Nat) (h : pos < (bl s).length) (hu : ¬ (65 ≤ (bl s)[pos].toNat ∧ (bl s)[pos].toNat ≤ 90)) : lower (((bl s).drop pos).take 1) = ((bl s).drop pos).take 1 := by
  rw [List.drop_eq_getElem_cons h]
  simp only [List.take_succ_cons, List.take_zero, lower, List.map_cons, List.map_nil, low8]
  rw [if_neg hu]

set_option maxHeartbeats 1000000 in
theorem rlower_any (s : ByteArray) (w : World) (hs : s.size ≤ 100000) :
    Calls Tryd.prog 51 #[.string s] w fun e w' => e = .returned (.string ⟨(lower (bl s)).toArray⟩) ∧ Below w.heap.size w w' := by
  have hcv := fun (w : World) (s : ByteArray) => run_bytes_of_string (P := Tryd.prog) w 9 53 5 s Tryd.underlying9 Tryd.underlying53 Tryd.underlying5
  go_enter Tryd.func51, Tryd.ntmps51
  go_wp2
  clear hcv
  go_loopw [4] (fun i wr => ∃ (pos : Nat), pos ≤ s.size ∧ i = .int .i64 pos ∧ Below w.heap.size w wr ∧ RowIs wr w.heap.size (mix s pos)) (fun i _ => s.size - (intOf i).toNat)
  case atStart =>
    refine ⟨0, Nat.zero_le _, rfl, ((Below.refl _ w).alloc (Nat.le_refl _) _).drew, ?_⟩
    rw [mix_zero]
    exact row_new w s _
  case round =>
    obtain ⟨pos, hp, rfl, hbw, hrow⟩ := hrel
    by_cases hlt : pos < s.size
    · have hl : pos < (bl s).length := by rw [bl_len]; exact hlt
      have hml : pos < (mix s pos).length := by rw [mix_len]; exact hlt
      have hce := hrow.cell pos hml
      rw [mix_at s pos hl hml] at hce
      have hfz := hrow.frozen pos hml
      have hms := mix_set s pos hl
      have hlow := low8_toNat (bl s)[pos]
      have hby := (bl s)[pos].toNat_lt
      have hset := hrow.set pos (low8 (bl s)[pos])
      rw [← hms, hlow] at hset
      generalize hcc : (bl s)[pos].toNat = c at *
      have HCC := hide hcc
      clear hcc
      have HS := hide hset
      clear hms hlow hset
      by_cases hu : 65 ≤ c ∧ c ≤ 90
      · obtain ⟨hu1, hu2⟩ := hu
        have HL : Hid (((lowN c : Nat) : Int) = (c : Int) + 32) := by
          show ((lowN c : Nat) : Int) = (c : Int) + 32
          unfold lowN
          rw [if_pos ⟨hu1, hu2⟩]
          rfl
        go_wp2
        go_roundw
        case rel =>
          refine ⟨pos + 1, by omega, by go_num, hbw.setCell (Nat.le_refl _) _, ?_⟩
          have := HS.out
          rw [HL.out] at this
          exact this
        case measure => simp [intOf]; omega
      · have hsame : RowIs wr w.heap.size (mix s (pos + 1)) := by
          have hk := mix_keep s pos 1 (keep1 s pos hl (by rw [HCC.out]; exact hu))
          rw [hk]
          exact hrow
        have HH := hide hsame
        clear hsame
        by_cases h65 : 65 ≤ c
        · have h90 : ¬ c ≤ 90 := by omega
          go_wp2
          go_roundw
          case rel => exact ⟨pos + 1, by omega, by go_num, hbw, HH.out⟩
          case measure => simp [intOf]; omega
        · go_wp2
          go_roundw
          case rel => exact ⟨pos + 1, by omega, by go_num, hbw, HH.out⟩
          case measure => simp [intOf]; omega
    · rw [mix_end s pos hlt] at hrow
      have hcb := conv_back wr w.heap.size (grownCap w s.size 0 5) s.size (lower (bl s)) (by unfold lower; rw [List.length_map]; exact bl_len s) hrow
      go_wp2
      go_ret
      exact ⟨rfl, hbw⟩

end Go.Proofs.YtjmgcdeinjamiaaDoor.Doc
