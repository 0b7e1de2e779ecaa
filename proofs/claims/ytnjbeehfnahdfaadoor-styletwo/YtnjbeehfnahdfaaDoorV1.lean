/-
  Texts as lists of bytes, and what utf.Lower answers at every text.
-/
import Derived.Test.YtnjbeehfnahdfaaDoorShelf
import Derived.Test.YtnjbeehfnahdfaaDoorMath
import Derived.WalkKit
import Derived.WalkSpells
import Derived.WalkLawsBesides
import Derived.BigCall
import Derived.Laws.IdiomStrings
namespace Go.Proofs.YtnjbeehfnahdfaaDoor
open Go.RowKit
open Utf1

/-- A text's bytes as a list. -/
abbrev bl (s : ByteArray) : List UInt8 := s.data.toList
theorem bl_len (s : ByteArray) : (bl s).length = s.size := Array.length_toList

/-- 'next' where a rune is at hand. -/
theorem next_some (P : Program) (w : World) (k : Nat) (s : ByteArray) (pos : Nat) (hk : w.heap[k]? = some (.stringIter s pos)) (h : pos < s.size) :
    ∃ r wd : Nat, 1 ≤ wd ∧ wd ≤ 4 ∧ pos + wd ≤ s.size ∧ r ≤ 1114111 ∧ dl ((bl s).drop pos) = (r, wd) ∧ (∀ ty, (Instr.next (.pointer (some ⟨k, 0, none⟩)) true ty).run P w =
      .ok (.tuple #[.bool true, .int .i64 pos, .int .i32 r]) (w.iterAt k s (pos + wd))) := by
  have hne : (bl s).drop pos ≠ [] := by
    intro e
    have := congrArg List.length e
    rw [List.length_drop, bl_len] at this
    simp at this
    omega
  have hw := dl_width _ hne
  have hsc := dl_scalar _ hne
  rw [List.length_drop, bl_len] at hw
  refine ⟨(dl ((bl s).drop pos)).1, (dl ((bl s).drop pos)).2, hw.1, hw.2.1, by omega, by unfold Scalar at hsc; omega, rfl, fun ty => ?_⟩
  rw [Lib.run_next_any_at w k s pos ty hk h, decode_dl s pos h]

theorem drop_ne (s : ByteArray) (pos : Nat) (h : pos < s.size) : (bl s).drop pos ≠ [] := by
  intro e
  have := congrArg List.length e
  rw [List.length_drop, bl_len] at this
  simp at this
  omega

theorem drop_all (s : ByteArray) (pos : Nat) (h : ¬ pos < s.size) : (bl s).drop pos = [] := by
  rw [List.drop_eq_nil_iff, bl_len]
  omega

theorem runes_drop (s : ByteArray) (pos r wd : Nat) (h : pos < s.size) (hd : dl ((bl s).drop pos) = (r, wd)) : runes ((bl s).drop pos) = r :: runes ((bl s).drop (pos + wd)) := by
  rw [runes_step _ (drop_ne s pos h), hd, List.drop_drop]

theorem hide {p : Prop} (h : p) : Hid p := h

theorem ret_int {k : IntKind} {a b : Int} (h : a = b) : Ending.returned (.int k a) = .returned (.int k b) := by rw [h]

theorem ret_bool {a b : Bool} (h : a = b) : Ending.returned (.bool a) = .returned (.bool b) := by rw [h]
theorem ret_str {a b : ByteArray} (h : a = b) : Ending.returned (.string a) = .returned (.string b) := by rw [h]

theorem beq_ne {a b : ByteArray} (h : bl a ≠ bl b) : (a.toList == b.toList) = false := by rw [ByteArray.toList_eq, ByteArray.toList_eq]; exact beq_eq_false_iff_ne.2 h
theorem beq_same {a b : ByteArray} (h : bl a = bl b) : (a.toList == b.toList) = true := by rw [ByteArray.toList_eq, ByteArray.toList_eq]; exact beq_iff_eq.2 h

theorem extract_take (s : ByteArray) (e : Nat) : s.extract 0 e = ⟨((bl s).take e).toArray⟩ := by
  apply ByteArray.ext
  apply Array.toList_inj.1
  rw [Lib.extract_data]
  simp

/-- A block holds the bytes l at its front, and none of these is frozen. -/
def RowIs (w : World) (B : Nat) (l : List UInt8) : Prop :=
  ∃ C fz, w.heap[B]? = some (.cells C 5 fz) ∧ l.length ≤ fz.1 ∧ ∀ j (hj : j < l.length), C[j]? = some (.int .u8 (l[j].toNat : Int))

theorem RowIs.cell {w : World} {B : Nat} {l : List UInt8} (h : RowIs w B l) (j : Nat) (hj : j < l.length) : w.cell? ⟨B, j, none⟩ = some (.int .u8 (l[j].toNat : Int)) := by
  obtain ⟨C, fz, hB, _, hc⟩ := h
  unfold World.cell?
  rw [hB]
  simpa using hc j hj

theorem RowIs.frozen {w : World} {B : Nat} {l : List UInt8} (h : RowIs w B l) (j : Nat) (hj : j < l.length) : w.frozen? ⟨B, j, none⟩ = false := by
  obtain ⟨C, fz, hB, hl, _⟩ := h
  unfold World.frozen?
  rw [hB]
  simp
  omega

theorem RowIs.set {w : World} {B : Nat} {l : List UInt8} (h : RowIs w B l) (j : Nat) (x : UInt8) : RowIs (w.setCell ⟨B, j, none⟩ (.int .u8 (x.toNat : Int))) B (l.set j x) := by
  obtain ⟨C, fz, hB, hl, hc⟩ := h
  refine ⟨C.setIfInBounds j (.int .u8 (x.toNat : Int)), fz, ?_, by simpa using hl, ?_⟩
  · simp [World.setCell, Array.getElem?_modify, hB]
  · intro i hi
    rw [List.length_set] at hi
    have h1 := hc i hi
    have hiC : i < C.size := (Array.getElem?_eq_some_iff.1 h1).1
    by_cases e : j = i
    · subst e
      simp [hiC]
    · simp [Array.getElem?_setIfInBounds_ne, e, h1]

theorem RowIs.iterAt {w : World} {B : Nat} {l : List UInt8} (h : RowIs w B l) (k : Nat) (hk : k ≠ B) (s : ByteArray) (pos : Nat) : RowIs (w.iterAt k s pos) B l := by
  obtain ⟨C, fz, hB, hl, hc⟩ := h
  exact ⟨C, fz, (Lib.iterAt_other w k B s pos (Ne.symm hk)).trans hB, hl, hc⟩

theorem RowIs.alloc {w : World} {B : Nat} {l : List UInt8} (h : RowIs w B l) (o : Obj) : RowIs (w.alloc o) B l := by
  obtain ⟨C, fz, hB, hl, hc⟩ := h
  have hlt : B < w.heap.size := (Array.getElem?_eq_some_iff.1 hB).1
  exact ⟨C, fz, (Lib.alloc_old w o B hlt).trans hB, hl, hc⟩

theorem RowIs.ofHeap {w w' : World} {B : Nat} {l : List UInt8} (h : RowIs w B l) (e : w'.heap[B]? = w.heap[B]?) : RowIs w' B l := by
  obtain ⟨C, fz, hB, hl, hc⟩ := h
  exact ⟨C, fz, e.trans hB, hl, hc⟩

theorem conv_back (w : World) (B cap n : Nat) (l : List UInt8) (hn : l.length = n) (h : RowIs w B l) :
    (convert 39 9 (.slice (some ⟨B, 0, none⟩) n cap)).run Tryd.prog w = .ok (.string ⟨l.toArray⟩) w := by
  subst hn
  exact run_convert_bytes_back w 39 9 5 ⟨B, 0, none⟩ cap l Tryd.underlying39 Tryd.underlying5 Tryd.underlying9 (fun j hj => by rw [show (⟨B, 0, none⟩ : Addr).add j = ⟨B, j, none⟩ from by cases j <;> simp [Addr.add]]; exact h.cell j hj)

/-- What '[]byte(s)' lays is such a row. -/
theorem row_new (w : World) (s : ByteArray) (cap : Nat) : RowIs (w.alloc (.cells (bytesRow s cap) 5 ((bytesRow s cap).size, (bytesRow s cap).size + 1))) w.heap.size (bl s) := by
  refine ⟨bytesRow s cap, ((bytesRow s cap).size, (bytesRow s cap).size + 1), ?_, ?_, fun j hj => ?_⟩
  · show (w.heap.push _)[w.heap.size]? = _
    simp
  · rw [bl_len]
    unfold bytesRow
    rw [Array.size_append, Array.size_map]
    exact Nat.le_add_right _ _
  · rw [bytesRow_at s cap j (by rw [← Array.length_toList]; exact hj)]
    rfl

/-- The bytes while they are made small, up to a place. -/
def mix (s : ByteArray) (pos : Nat) : List UInt8 := lower ((bl s).take pos) ++ (bl s).drop pos
theorem mix_len (s : ByteArray) (pos : Nat) : (mix s pos).length = s.size := by
  unfold mix lower
  rw [List.length_append, List.length_map, ← List.length_append, List.take_append_drop, bl_len]
theorem mix_zero (s : ByteArray) : mix s 0 = bl s := by simp [mix, lower]
theorem mix_end (s : ByteArray) (pos : Nat) (h : ¬ pos < s.size) : mix s pos = lower (bl s) := by
  unfold mix
  rw [drop_all s pos h, List.take_of_length_le (by rw [bl_len]; omega), List.append_nil]
theorem mix_keep (s : ByteArray) (pos wd : Nat) (h : lower (((bl s).drop pos).take wd) = ((bl s).drop pos).take wd) : mix s (pos + wd) = mix s pos := by
  unfold mix
  have e : (bl s).take (pos + wd) = (bl s).take pos ++ ((bl s).drop pos).take wd := List.take_add
  have h2 : lower ((bl s).take pos ++ ((bl s).drop pos).take wd) = lower ((bl s).take pos) ++ lower (((bl s).drop pos).take wd) := by simp [lower]
  rw [e, h2, h, List.append_assoc, ← List.drop_drop, List.take_append_drop]
theorem mix_set (s : ByteArray) (pos : Nat) (h : pos < (bl s).length) : mix s (pos + 1) = (mix s pos).set pos (low8 ((bl s)[pos])) := by
  unfold mix
  have e : (bl s).take (pos + 1) = (bl s).take pos ++ [(bl s)[pos]] := List.take_succ_eq_append_getElem h
  have h2 : lower ((bl s).take pos ++ [(bl s)[pos]]) = lower ((bl s).take pos) ++ [low8 ((bl s)[pos])] := by simp [lower]
  have h3 : (lower ((bl s).take pos)).length = pos := by unfold lower; rw [List.length_map, List.length_take]; omega
  rw [e, h2, List.set_append_right _ _ (by omega), h3, Nat.sub_self, List.drop_eq_getElem_cons h, List.set_cons_zero, List.append_assoc]
  rfl
theorem mix_at (s : ByteArray) (pos : Nat) (h : pos < (bl s).length) (h2 : pos < (mix s pos).length) : (mix s pos)[pos] = (bl s)[pos] := by
  have h3 : (lower ((bl s).take pos)).length = pos := by unfold lower; rw [List.length_map, List.length_take]; omega
  apply Option.some.inj
  rw [← List.getElem?_eq_getElem, ← List.getElem?_eq_getElem]
  unfold mix
  rw [List.getElem?_append_right (by omega), h3, Nat.sub_self, List.getElem?_drop, Nat.add_zero]

set_option maxHeartbeats 1000000 in
theorem lower_any (s : ByteArray) (w : World) :
    Calls Tryd.prog 31 #[.string s] w fun e w' => e = .returned (.string ⟨(lower (bl s)).toArray⟩) ∧ Below w.heap.size w w' := by
  have hcv := fun (w : World) (s : ByteArray) => run_bytes_of_string (P := Tryd.prog) w 9 39 5 s Tryd.underlying9 Tryd.underlying39 Tryd.underlying5
  go_enter Tryd.func31, Tryd.ntmps31
  go_wp2
  clear hcv
  go_loopw [] (fun wr => ∃ (pos : Nat), pos ≤ s.size ∧ wr.heap[w.heap.size + 1]? = some (.stringIter s pos) ∧ Below w.heap.size w wr ∧ RowIs wr w.heap.size (mix s pos)) (fun wr => s.size - wr.iterPos (w.heap.size + 1))
  case atStart =>
    refine ⟨0, Nat.zero_le _, ?_, (((Below.refl _ w).alloc (Nat.le_refl _) _).drew).alloc (by simp) _, ?_⟩
    · have := World.iter_heap ((w.alloc (Obj.cells (bytesRow s (grownCap w s.size 0 5)) 5 ((bytesRow s (grownCap w s.size 0 5)).size, (bytesRow s (grownCap w s.size 0 5)).size + 1))).drew) s 0
      simpa using this
    · rw [mix_zero]
      exact (row_new w s _).alloc _
  case round =>
    obtain ⟨pos, hp, hit, hbw, hrow⟩ := hrel
    by_cases hlt : pos < s.size
    · obtain ⟨r, wd, hw1, hw4, hwl, hr, hdl, hnx⟩ := next_some Tryd.prog wr (w.heap.size + 1) s pos hit hlt
      have hit2 := Lib.iterAt_heap wr (w.heap.size + 1) s pos (pos + wd) hit
      have hbw2 := Lib.below_iterAt hbw (k := w.heap.size + 1) (by omega) s (pos + wd)
      have hrow2 := hrow.iterAt (w.heap.size + 1) (by omega) s (pos + wd)
      have hlh := low_head _ (drop_ne s pos hlt)
      rw [hdl] at hlh
      clear hdl
      rcases hlh with ⟨hu1, hu2, hwd, hra⟩ | ⟨hu, hlo⟩
      · have hu1 : 65 ≤ r := hu1
        have hu2 : r ≤ 90 := hu2
        have hwd : wd = 1 := hwd
        have hl : pos < (bl s).length := by rw [bl_len]; exact hlt
        have hml : pos < (mix s pos).length := by rw [mix_len]; exact hlt
        have hby : (bl s)[pos].toNat = r := by
          rw [show r = atN ((bl s).drop pos) 0 from hra]
          unfold atN
          rw [List.getD_eq_getElem?_getD, List.getElem?_drop, Nat.add_zero, List.getElem?_eq_getElem hl]
          rfl
        have hce := hrow2.cell pos hml
        rw [mix_at s pos hl hml, hby] at hce
        have hfz := hrow2.frozen pos hml
        subst hwd
        have HBY := hide hby
        clear hby hra
        have hne : w.heap.size + 1 ≠ w.heap.size := by omega
        have HV : Hid ((r : Int) + 32 = ((low8 (bl s)[pos]).toNat : Int)) := by
          show (r : Int) + 32 = ((low8 (bl s)[pos]).toNat : Int)
          rw [low8_toNat, HBY.out]
          unfold lowN
          rw [if_pos ⟨hu1, hu2⟩]
          go_num
        go_wp2
        have hit3 : ∀ v, ((wr.iterAt (w.heap.size + 1) s (pos + 1)).setCell ⟨w.heap.size, pos, none⟩ v).heap[w.heap.size + 1]? = some (.stringIter s (pos + 1)) := fun v => (Below.heap_setCell _ _ _ _ hne).trans hit2
        refine ⟨⟨pos + 1, hwl, hit3 _, hbw2.setCell (Nat.le_refl _) _, ?_⟩, ?_⟩
        · rw [HV.out, mix_set s pos hl]
          exact hrow2.set pos _
        · simp only [World.iterPos, hit3, hit]
          omega
      · have hu : ¬ (65 ≤ r ∧ r ≤ 90) := hu
        rw [← mix_keep s pos wd hlo] at hrow2
        clear hlo
        by_cases h65 : 65 ≤ r
        · have h90 : ¬ r ≤ 90 := by omega
          go_wp2
          go_roundw
          case rel => exact ⟨pos + wd, hwl, hit2, hbw2, hrow2⟩
          case measure =>
            simp only [World.iterPos, hit2, hit]
            omega
        · go_wp2
          go_roundw
          case rel => exact ⟨pos + wd, hwl, hit2, hbw2, hrow2⟩
          case measure =>
            simp only [World.iterPos, hit2, hit]
            omega
    · have hnx : ∀ ty, (Instr.next (.pointer (some ⟨w.heap.size + 1, 0, none⟩)) true ty).run Tryd.prog wr = _ := fun ty => Lib.run_next_end_at wr (w.heap.size + 1) s pos ty hit hlt
      rw [mix_end s pos hlt] at hrow
      have hcb := conv_back wr w.heap.size (grownCap w s.size 0 5) s.size (lower (bl s)) (by unfold lower; rw [List.length_map]; exact bl_len s) hrow
      go_wp2
      go_ret
      exact ⟨rfl, hbw⟩

theorem idx_run (s : ByteArray) (pos k : Nat) (h : pos + k < s.size) (w : World) :
    (Instr.index 9 (.string s) (.int .i64 ((pos + k : Nat) : Int))).run Tryd.prog w = .ok (.int .u8 (atN ((bl s).drop pos) k : Nat)) w := by
  have e : atN ((bl s).drop pos) k = (s[pos + k]'h).toNat := by
    unfold atN
    have hk : pos + k < (bl s).length := by rw [bl_len]; exact h
    rw [List.getD_eq_getElem?_getD, List.getElem?_drop, List.getElem?_eq_getElem hk]
    rfl
  rw [e]
  have hh : 0 ≤ ((pos + k : Nat) : Int) ∧ ((pos + k : Nat) : Int) < (s.size : Int) := by omega
  have := run_index_string (P := Tryd.prog) w 9 s .i64 ((pos + k : Nat) : Int) Tryd.underlying9
  rw [this, dif_pos hh]
  rfl

end Go.Proofs.YtnjbeehfnahdfaaDoor
