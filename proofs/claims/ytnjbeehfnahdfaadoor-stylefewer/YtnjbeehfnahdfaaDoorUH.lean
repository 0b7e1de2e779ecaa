/-
  Small laws on texts, slices of strings among the arguments, and the document's own Lower.
-/
import Derived.Test.YtnjbeehfnahdfaaDoorV1
import Derived.Lib.AppendStr
import Derived.Deep.LoopGhost
import Derived.WalkMore
namespace Go.Proofs.YtnjbeehfnahdfaaDoor
open Go.RowKit
open Utf1

theorem extract_bl (s : ByteArray) (a b : Nat) : bl (s.extract a b) = ((bl s).drop a).take (b - a) := Lib.extract_data s a b
theorem drop_cons (s : ByteArray) (k : Nat) (h : k < s.size) : (bl s).drop k = (bl s)[k]'(by rw [bl_len]; exact h) :: (bl s).drop (k + 1) := List.drop_eq_getElem_cons _
theorem atN_drop (s : ByteArray) (k : Nat) (h : k < s.size) : atN ((bl s).drop k) 0 = ((bl s)[k]'(by rw [bl_len]; exact h)).toNat := by
  rw [drop_cons s k h]
  rfl
theorem idxK {s : ByteArray} {k : Nat} {c : UInt8} (h : (bl s)[k]? = some c) (w : World) : (Instr.index 9 (.string s) (.int .i64 (k : Int))).run Tryd.prog w = .ok (.int .u8 (c.toNat : Int)) w := by
  have hl : k < s.size := by
    rw [← bl_len]
    exact (List.getElem?_eq_some_iff.1 h).1
  have := idx_run s k 0 hl w
  rw [atN_drop s k hl] at this
  have e : (bl s)[k]'(by rw [bl_len]; exact hl) = c := by
    rw [List.getElem?_eq_getElem (by rw [bl_len]; exact hl)] at h
    exact Option.some.inj h
  rw [e] at this
  exact this
theorem app_bl (a b : ByteArray) : bl (a ++ b) = bl a ++ bl b := by
  show (a ++ b).data.toList = _
  rw [ByteArray.data_append, Array.toList_append]
theorem app_size (a b : ByteArray) : (a ++ b).size = a.size + b.size := by
  rw [← bl_len, app_bl, List.length_append, bl_len, bl_len]
theorem ba_ext {a b : ByteArray} (h : bl a = bl b) : a = b := by
  cases a
  cases b
  simpa using h
theorem u8_eq {c : UInt8} {n : Nat} (hn : n < 256) : c = UInt8.ofNat n ↔ c.toNat = n := by
  constructor
  · rintro rfl
    exact toNat_ofNat hn
  · intro h
    exact (ofNat_of h.symm).symm
theorem eq_lit (s : ByteArray) (l : List UInt8) : (s.toList == l) = decide (bl s = l) := by
  rw [ByteArray.toList_eq]
  by_cases h : bl s = l
  · rw [decide_eq_true h]
    exact beq_iff_eq.2 h
  · rw [decide_eq_false h]
    exact beq_eq_false_iff_ne.2 h
theorem eq_two (a b : ByteArray) : (a.toList == b.toList) = decide (bl a = bl b) := by
  rw [ByteArray.toList_eq b]
  exact eq_lit a _

theorem add_plain (b off j : Nat) : (⟨b, off, none⟩ : Addr).add j = ⟨b, off + j, none⟩ := by cases j <;> simp [Addr.add]
/-- A slice of strings that is only read. -/
def StrArg (w : World) (v : Value) (ss : List ByteArray) : Prop := ∃ p cap, v = .slice p ss.length cap ∧ (p = none → cap = 0) ∧ ∀ i s, ss[i]? = some s → ∃ b off, p = some ⟨b, off, none⟩ ∧ w.cell? ⟨b, off + i, none⟩ = some (.string s)

theorem cell_keep {w w' : World} {a : Addr} {v : Value} (h : w.cell? a = some v) (hb : Below w.heap.size w w') : w'.cell? a = some v := by
  have hlt : a.block < w.heap.size := by
    unfold World.cell? at h
    cases e : w.heap[a.block]? with
    | none => rw [e] at h; simp at h
    | some o => exact (Array.getElem?_eq_some_iff.1 e).1
  rw [hb.cell hlt]
  exact h
theorem StrArg.below {w w' : World} {v : Value} {ss : List ByteArray} (h : StrArg w v ss) (hb : Below w.heap.size w w') : StrArg w' v ss := by
  obtain ⟨p, cap, rfl, h0, hc⟩ := h
  refine ⟨p, cap, rfl, h0, fun i s hi => ?_⟩
  obtain ⟨b, off, rfl, hcell⟩ := hc i s hi
  exact ⟨b, off, rfl, cell_keep hcell hb⟩

theorem keep1 (s : ByteArray) (pos : Nat) (h : pos < (bl s).length) (hu : ¬ (65 ≤ (bl s)[pos].toNat ∧ (bl s)[pos].toNat ≤ 90)) : lower (((bl s).drop pos).take 1) = ((bl s).drop pos).take 1 := by
  rw [List.drop_eq_getElem_cons h]
  simp only [List.take_succ_cons, List.take_zero, lower, List.map_cons, List.map_nil, low8]
  rw [if_neg hu]
set_option maxHeartbeats 1000000 in
theorem rlower_any (s : ByteArray) (w : World) (hs : s.size ≤ 100000) :
    Calls Tryd.prog 29 #[.string s] w fun e w' => e = .returned (.string ⟨(lower (bl s)).toArray⟩) ∧ Below w.heap.size w w' := by
  have hcv := fun (w : World) (s : ByteArray) => run_bytes_of_string (P := Tryd.prog) w 9 39 5 s Tryd.underlying9 Tryd.underlying39 Tryd.underlying5
  go_enter Tryd.func29, Tryd.ntmps29
  go_wp2
  clear hcv
  go_loopw [4] (fun i wr => ∃ (pos : Nat), pos ≤ s.size ∧ i = .int .i64 pos ∧ Below w.heap.size w wr ∧ RowIs wr w.heap.size (mix s pos)) (fun i _ => s.size - (intOf i).toNat)
  case atStart =>
    refine ⟨0, Nat.zero_le _, rfl, ((Below.refl _ w).alloc (Nat.le_refl _) _).drew, ?_⟩
    rw [mix_zero]
    exact row_new w s _
  case round =>
    obtain ⟨pos, hp, rfl, hbw, hrow⟩ := hrel
    by_cases hlt : pos < s.size
    · have hl : pos < (bl s).length := by rw [bl_len]; exact hlt
      have hml : pos < (mix s pos).length := by rw [mix_len]; exact hlt
      have hce := hrow.cell pos hml
      rw [mix_at s pos hl hml] at hce
      have hfz := hrow.frozen pos hml
      have hms := mix_set s pos hl
      have hlow := low8_toNat (bl s)[pos]
      have hby := (bl s)[pos].toNat_lt
      have hset := hrow.set pos (low8 (bl s)[pos])
      rw [← hms, hlow] at hset
      generalize hcc : (bl s)[pos].toNat = c at *
      have HCC := hide hcc
      clear hcc
      have HS := hide hset
      clear hms hlow hset
      by_cases hu : 65 ≤ c ∧ c ≤ 90
      · obtain ⟨hu1, hu2⟩ := hu
        have HL : Hid (((lowN c : Nat) : Int) = (c : Int) + 32) := by
          show ((lowN c : Nat) : Int) = (c : Int) + 32
          unfold lowN
          rw [if_pos ⟨hu1, hu2⟩]
          rfl
        go_wp2
        go_roundw
        case rel =>
          refine ⟨pos + 1, by omega, by go_num, hbw.setCell (Nat.le_refl _) _, ?_⟩
          have := HS.out
          rw [HL.out] at this
          exact this
        case measure => simp [intOf]; omega
      · have hsame : RowIs wr w.heap.size (mix s (pos + 1)) := by
          have hk := mix_keep s pos 1 (keep1 s pos hl (by rw [HCC.out]; exact hu))
          rw [hk]
          exact hrow
        have HH := hide hsame
        clear hsame
        by_cases h65 : 65 ≤ c
        · have h90 : ¬ c ≤ 90 := by omega
          go_wp2
          go_roundw
          case rel => exact ⟨pos + 1, by omega, by go_num, hbw, HH.out⟩
          case measure => simp [intOf]; omega
        · go_wp2
          go_roundw
          case rel => exact ⟨pos + 1, by omega, by go_num, hbw, HH.out⟩
          case measure => simp [intOf]; omega
    · rw [mix_end s pos hlt] at hrow
      have hcb := conv_back wr w.heap.size (grownCap w s.size 0 5) s.size (lower (bl s)) (by unfold lower; rw [List.length_map]; exact bl_len s) hrow
      go_wp2
      go_ret
      exact ⟨rfl, hbw⟩

end Go.Proofs.YtnjbeehfnahdfaaDoor
