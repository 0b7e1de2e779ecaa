/-
  Texts as lists of bytes, and what utf.Lower answers at every text.
-/
import Derived.Test.YtbcadeikdmlpoaaDoorShelf
import Derived.Test.YtbcadeikdmlpoaaDoorPH
import Derived.Test.YtbcadeikdmlpoaaDoorMath
import Derived.WalkKit
import Derived.WalkSpells
import Derived.WalkLawsBesides
import Derived.BigCall
import Derived.Laws.IdiomStrings
import Derived.Test.YtbcadeikdmlpoaaDoorUM
import Derived.Lib.AppendStr
import Derived.Deep.LoopGhost
import Derived.WalkMore
import Derived.Deep.CutBlock
import Derived.KernelRfl
namespace Go.Proofs.YtbcadeikdmlpoaaDoor.Ul
open Go.RowKit
open Utf1

/-- 'next' where a rune is at hand. -/
theorem next_some (P : Program) (w : World) (k : Nat) (s : ByteArray) (pos : Nat) (hk : w.heap[k]? = some (.stringIter s pos)) (h : pos < s.size) :
    ∃ r wd : Nat, 1 ≤ wd ∧ wd ≤ 4 ∧ pos + wd ≤ s.size ∧ r ≤ 1114111 ∧ dl ((bl s).drop pos) = (r, wd) ∧ (∀ ty, (Instr.next (.pointer (some ⟨k, 0, none⟩)) true ty).run P w =
      .ok (.tuple #[.bool true, .int .i64 pos, .int .i32 r]) (w.iterAt k s (pos + wd))) := by
  have hne : (bl s).drop pos ≠ [] := by
    intro e
    have := congrArg List.length e
    rw [List.length_drop, bl_len] at this
    simp at this
    omega
  have hw := dl_width _ hne
  have hsc := dl_scalar _ hne
  rw [List.length_drop, bl_len] at hw
  refine ⟨(dl ((bl s).drop pos)).1, (dl ((bl s).drop pos)).2, hw.1, hw.2.1, by omega, by unfold Scalar at hsc; omega, rfl, fun ty => ?_⟩
  rw [Lib.run_next_any_at w k s pos ty hk h, decode_dl s pos h]

theorem drop_ne (s : ByteArray) (pos : Nat) (h : pos < s.size) : (bl s).drop pos ≠ [] := by
  intro e
  have := congrArg List.length e
  rw [List.length_drop, bl_len] at this
  simp at this
  omega

theorem drop_all (s : ByteArray) (pos : Nat) (h : ¬ pos < s.size) : (bl s).drop pos = [] := by
  rw [List.drop_eq_nil_iff, bl_len]
  omega

theorem runes_drop (s : ByteArray) (pos r wd : Nat) (h : pos < s.size) (hd : dl ((bl s).drop pos) = (r, wd)) : runes ((bl s).drop pos) = r :: runes ((bl s).drop (pos + wd)) := by
  rw [runes_step _ (drop_ne s pos h), hd, List.drop_drop]

/-- A block holds the bytes l at its front, and none of these is frozen. -/
def RowIs (w : World) (B : Nat) (l : List UInt8) : Prop :=
  ∃ C fz, w.heap[B]? = some (.cells C 5 fz) ∧ l.length ≤ fz.1 ∧ ∀ j (hj : j < l.length), C[j]? = some (.int .u8 (l[j].toNat : Int))

theorem RowIs.cell {w : World} {B : Nat} {l : List UInt8} (h : RowIs w B l) (j : Nat) (hj : j < l.length) : w.cell? ⟨B, j, none⟩ = some (.int .u8 (l[j].toNat : Int)) := by
  obtain ⟨C, fz, hB, _, hc⟩ := h
  unfold World.cell?
  rw [hB]
  simpa using hc j hj

theorem RowIs.frozen {w : World} {B : Nat} {l : List UInt8} (h : RowIs w B l) (j : Nat) (hj : j < l.length) : w.frozen? ⟨B, j, none⟩ = false := by
  obtain ⟨C, fz, hB, hl, _⟩ := h
  unfold World.frozen?
  rw [hB]
  simp
  omega

theorem RowIs.set {w : World} {B : Nat} {l : List UInt8} (h : RowIs w B l) (j : Nat) (x : UInt8) : RowIs (w.setCell ⟨B, j, none⟩ (.int .u8 (x.toNat : Int))) B (l.set j x) := by
  obtain ⟨C, fz, hB, hl, hc⟩ := h
  refine ⟨C.setIfInBounds j (.int .u8 (x.toNat : Int)), fz, ?_, by simpa using hl, ?_⟩
  · simp [World.setCell, Array.getElem?_modify, hB]
  · intro i hi
    rw [List.length_set] at hi
    have h1 := hc i hi
    have hiC : i < C.size := (Array.getElem?_eq_some_iff.1 h1).1
    by_cases e : j = i
    · subst e
      simp [hiC]
    · simp [Array.getElem?_setIfInBounds_ne, e, h1]

theorem RowIs.iterAt {w : World} {B : Nat} {l : List UInt8} (h : RowIs w B l) (k : Nat) (hk : k ≠ B) (s : ByteArray) (pos : Nat) : RowIs (w.iterAt k s pos) B l := by
  obtain ⟨C, fz, hB, hl, hc⟩ := h
  exact ⟨C, fz, (Lib.iterAt_other w k B s pos (Ne.symm hk)).trans hB, hl, hc⟩

theorem RowIs.alloc {w : World} {B : Nat} {l : List UInt8} (h : RowIs w B l) (o : Obj) : RowIs (w.alloc o) B l := by
  obtain ⟨C, fz, hB, hl, hc⟩ := h
  have hlt : B < w.heap.size := (Array.getElem?_eq_some_iff.1 hB).1
  exact ⟨C, fz, (Lib.alloc_old w o B hlt).trans hB, hl, hc⟩

theorem RowIs.ofHeap {w w' : World} {B : Nat} {l : List UInt8} (h : RowIs w B l) (e : w'.heap[B]? = w.heap[B]?) : RowIs w' B l := by
  obtain ⟨C, fz, hB, hl, hc⟩ := h
  exact ⟨C, fz, e.trans hB, hl, hc⟩

theorem conv_back (w : World) (B cap n : Nat) (l : List UInt8) (hn : l.length = n) (h : RowIs w B l) :
    (convert 70 9 (.slice (some ⟨B, 0, none⟩) n cap)).run Tryd.prog w = .ok (.string ⟨l.toArray⟩) w := by
  subst hn
  exact run_convert_bytes_back w 70 9 5 ⟨B, 0, none⟩ cap l Tryd.underlying70 Tryd.underlying5 Tryd.underlying9 (fun j hj => by rw [show (⟨B, 0, none⟩ : Addr).add j = ⟨B, j, none⟩ from by cases j <;> simp [Addr.add]]; exact h.cell j hj)

/-- What '[]byte(s)' lays is such a row. -/
theorem row_new (w : World) (s : ByteArray) (cap : Nat) : RowIs (w.alloc (.cells (bytesRow s cap) 5 ((bytesRow s cap).size, (bytesRow s cap).size + 1))) w.heap.size (bl s) := by
  refine ⟨bytesRow s cap, ((bytesRow s cap).size, (bytesRow s cap).size + 1), ?_, ?_, fun j hj => ?_⟩
  · show (w.heap.push _)[w.heap.size]? = _
    simp
  · rw [bl_len]
    unfold bytesRow
    rw [Array.size_append, Array.size_map]
    exact Nat.le_add_right _ _
  · rw [bytesRow_at s cap j (by rw [← Array.length_toList]; exact hj)]
    rfl

/-- The bytes while they are made small, up to a place. -/
def mix (s : ByteArray) (pos : Nat) : List UInt8 := lower ((bl s).take pos) ++ (bl s).drop pos
theorem mix_len (s : ByteArray) (pos : Nat) : (mix s pos).length = s.size := by
  unfold mix lower
  rw [List.length_append, List.length_map, ← List.length_append, List.take_append_drop, bl_len]
theorem mix_zero (s : ByteArray) : mix s 0 = bl s := by simp [mix, lower]
theorem mix_end (s : ByteArray) (pos : Nat) (h : ¬ pos < s.size) : mix s pos = lower (bl s) := by
  unfold mix
  rw [drop_all s pos h, List.take_of_length_le (by rw [bl_len]; omega), List.append_nil]
theorem mix_keep (s : ByteArray) (pos wd : Nat) (h : lower (((bl s).drop pos).take wd) = ((bl s).drop pos).take wd) : mix s (pos + wd) = mix s pos := by
  unfold mix
  have e : (bl s).take (pos + wd) = (bl s).take pos ++ ((bl s).drop pos).take wd := List.take_add
  have h2 : lower ((bl s).take pos ++ ((bl s).drop pos).take wd) = lower ((bl s).take pos) ++ lower (((bl s).drop pos).take wd) := by simp [lower]
  rw [e, h2, h, List.append_assoc, ← List.drop_drop, List.take_append_drop]
theorem mix_set (s : ByteArray) (pos : Nat) (h : pos < (bl s).length) : mix s (pos + 1) = (mix s pos).set pos (low8 ((bl s)[pos])) := by
  unfold mix
  have e : (bl s).take (pos + 1) = (bl s).take pos ++ [(bl s)[pos]] := List.take_succ_eq_append_getElem h
  have h2 : lower ((bl s).take pos ++ [(bl s)[pos]]) = lower ((bl s).take pos) ++ [low8 ((bl s)[pos])] := by simp [lower]
  have h3 : (lower ((bl s).take pos)).length = pos := by unfold lower; rw [List.length_map, List.length_take]; omega
  rw [e, h2, List.set_append_right _ _ (by omega), h3, Nat.sub_self, List.drop_eq_getElem_cons h, List.set_cons_zero, List.append_assoc]
  rfl
theorem mix_at (s : ByteArray) (pos : Nat) (h : pos < (bl s).length) (h2 : pos < (mix s pos).length) : (mix s pos)[pos] = (bl s)[pos] := by
  have h3 : (lower ((bl s).take pos)).length = pos := by unfold lower; rw [List.length_map, List.length_take]; omega
  apply Option.some.inj
  rw [← List.getElem?_eq_getElem, ← List.getElem?_eq_getElem]
  unfold mix
  rw [List.getElem?_append_right (by omega), h3, Nat.sub_self, List.getElem?_drop, Nat.add_zero]

set_option maxHeartbeats 1000000 in
theorem lower_any (s : ByteArray) (w : World) :
    Calls Tryd.prog 71 #[.string s] w fun e w' => e = .returned (.string ⟨(lower (bl s)).toArray⟩) ∧ Below w.heap.size w w' := by
  have hcv := fun (w : World) (s : ByteArray) => run_bytes_of_string (P := Tryd.prog) w 9 70 5 s Tryd.underlying9 Tryd.underlying70 Tryd.underlying5
  go_enter Tryd.func71, Tryd.ntmps71
  go_wp2
  clear hcv
  go_loopw [] (fun wr => ∃ (pos : Nat), pos ≤ s.size ∧ wr.heap[w.heap.size + 1]? = some (.stringIter s pos) ∧ Below w.heap.size w wr ∧ RowIs wr w.heap.size (mix s pos)) (fun wr => s.size - wr.iterPos (w.heap.size + 1))
  case atStart =>
    refine ⟨0, Nat.zero_le _, ?_, (((Below.refl _ w).alloc (Nat.le_refl _) _).drew).alloc (by simp) _, ?_⟩
    · have := World.iter_heap ((w.alloc (Obj.cells (bytesRow s (grownCap w s.size 0 5)) 5 ((bytesRow s (grownCap w s.size 0 5)).size, (bytesRow s (grownCap w s.size 0 5)).size + 1))).drew) s 0
      simpa using this
    · rw [mix_zero]
      exact (row_new w s _).alloc _
  case round =>
    obtain ⟨pos, hp, hit, hbw, hrow⟩ := hrel
    by_cases hlt : pos < s.size
    · obtain ⟨r, wd, hw1, hw4, hwl, hr, hdl, hnx⟩ := next_some Tryd.prog wr (w.heap.size + 1) s pos hit hlt
      have hit2 := Lib.iterAt_heap wr (w.heap.size + 1) s pos (pos + wd) hit
      have hbw2 := Lib.below_iterAt hbw (k := w.heap.size + 1) (by omega) s (pos + wd)
      have hrow2 := hrow.iterAt (w.heap.size + 1) (by omega) s (pos + wd)
      have hlh := low_head _ (drop_ne s pos hlt)
      rw [hdl] at hlh
      clear hdl
      rcases hlh with ⟨hu1, hu2, hwd, hra⟩ | ⟨hu, hlo⟩
      · have hu1 : 65 ≤ r := hu1
        have hu2 : r ≤ 90 := hu2
        have hwd : wd = 1 := hwd
        have hl : pos < (bl s).length := by rw [bl_len]; exact hlt
        have hml : pos < (mix s pos).length := by rw [mix_len]; exact hlt
        have hby : (bl s)[pos].toNat = r := by
          rw [show r = atN ((bl s).drop pos) 0 from hra]
          unfold atN
          rw [List.getD_eq_getElem?_getD, List.getElem?_drop, Nat.add_zero, List.getElem?_eq_getElem hl]
          rfl
        have hce := hrow2.cell pos hml
        rw [mix_at s pos hl hml, hby] at hce
        have hfz := hrow2.frozen pos hml
        subst hwd
        have HBY := hide hby
        clear hby hra
        have hne : w.heap.size + 1 ≠ w.heap.size := by omega
        have HV : Hid ((r : Int) + 32 = ((low8 (bl s)[pos]).toNat : Int)) := by
          show (r : Int) + 32 = ((low8 (bl s)[pos]).toNat : Int)
          rw [low8_toNat, HBY.out]
          unfold lowN
          rw [if_pos ⟨hu1, hu2⟩]
          go_num
        go_wp2
        have hit3 : ∀ v, ((wr.iterAt (w.heap.size + 1) s (pos + 1)).setCell ⟨w.heap.size, pos, none⟩ v).heap[w.heap.size + 1]? = some (.stringIter s (pos + 1)) := fun v => (Below.heap_setCell _ _ _ _ hne).trans hit2
        refine ⟨⟨pos + 1, hwl, hit3 _, hbw2.setCell (Nat.le_refl _) _, ?_⟩, ?_⟩
        · rw [HV.out, mix_set s pos hl]
          exact hrow2.set pos _
        · simp only [World.iterPos, hit3, hit]
          omega
      · have hu : ¬ (65 ≤ r ∧ r ≤ 90) := hu
        rw [← mix_keep s pos wd hlo] at hrow2
        clear hlo
        by_cases h65 : 65 ≤ r
        · have h90 : ¬ r ≤ 90 := by omega
          go_wp2
          go_roundw
          case rel => exact ⟨pos + wd, hwl, hit2, hbw2, hrow2⟩
          case measure =>
            simp only [World.iterPos, hit2, hit]
            omega
        · go_wp2
          go_roundw
          case rel => exact ⟨pos + wd, hwl, hit2, hbw2, hrow2⟩
          case measure =>
            simp only [World.iterPos, hit2, hit]
            omega
    · have hnx : ∀ ty, (Instr.next (.pointer (some ⟨w.heap.size + 1, 0, none⟩)) true ty).run Tryd.prog wr = _ := fun ty => Lib.run_next_end_at wr (w.heap.size + 1) s pos ty hit hlt
      rw [mix_end s pos hlt] at hrow
      have hcb := conv_back wr w.heap.size (grownCap w s.size 0 5) s.size (lower (bl s)) (by unfold lower; rw [List.length_map]; exact bl_len s) hrow
      go_wp2
      go_ret
      exact ⟨rfl, hbw⟩

end Go.Proofs.YtbcadeikdmlpoaaDoor.Ul

namespace Go.Proofs.YtbcadeikdmlpoaaDoor.Ul
open Go.RowKit
open Utf1

theorem keep1 (s : ByteArray) (pos : Nat) (h : pos < (bl s).length) (hu : ¬ (65 ≤ (bl s)[pos].toNat ∧ (bl s)[pos].toNat ≤ 90)) : lower (((bl s).drop pos).take 1) = ((bl s).drop pos).take 1 := by
  rw [List.drop_eq_getElem_cons h]
  simp only [List.take_succ_cons, List.take_zero, lower, List.map_cons, List.map_nil, low8]
  rw [if_neg hu]
set_option maxHeartbeats 1000000 in
theorem rlower_any (s : ByteArray) (w : World) (hs : s.size ≤ 100000) :
    Calls Tryd.prog 79 #[.string s] w fun e w' => e = .returned (.string ⟨(lower (bl s)).toArray⟩) ∧ Below w.heap.size w w' := by
  have hcv := fun (w : World) (s : ByteArray) => run_bytes_of_string (P := Tryd.prog) w 9 70 5 s Tryd.underlying9 Tryd.underlying70 Tryd.underlying5
  go_enter Tryd.func79, Tryd.ntmps79
  go_wp2
  clear hcv
  go_loopw [4] (fun i wr => ∃ (pos : Nat), pos ≤ s.size ∧ i = .int .i64 pos ∧ Below w.heap.size w wr ∧ RowIs wr w.heap.size (mix s pos)) (fun i _ => s.size - (intOf i).toNat)
  case atStart =>
    refine ⟨0, Nat.zero_le _, rfl, ((Below.refl _ w).alloc (Nat.le_refl _) _).drew, ?_⟩
    rw [mix_zero]
    exact row_new w s _
  case round =>
    obtain ⟨pos, hp, rfl, hbw, hrow⟩ := hrel
    by_cases hlt : pos < s.size
    · have hl : pos < (bl s).length := by rw [bl_len]; exact hlt
      have hml : pos < (mix s pos).length := by rw [mix_len]; exact hlt
      have hce := hrow.cell pos hml
      rw [mix_at s pos hl hml] at hce
      have hfz := hrow.frozen pos hml
      have hms := mix_set s pos hl
      have hlow := low8_toNat (bl s)[pos]
      have hby := (bl s)[pos].toNat_lt
      have hset := hrow.set pos (low8 (bl s)[pos])
      rw [← hms, hlow] at hset
      generalize hcc : (bl s)[pos].toNat = c at *
      have HCC := hide hcc
      clear hcc
      have HS := hide hset
      clear hms hlow hset
      by_cases hu : 65 ≤ c ∧ c ≤ 90
      · obtain ⟨hu1, hu2⟩ := hu
        have HL : Hid (((lowN c : Nat) : Int) = (c : Int) + 32) := by
          show ((lowN c : Nat) : Int) = (c : Int) + 32
          unfold lowN
          rw [if_pos ⟨hu1, hu2⟩]
          rfl
        go_wp2
        go_roundw
        case rel =>
          refine ⟨pos + 1, by omega, by go_num, hbw.setCell (Nat.le_refl _) _, ?_⟩
          have := HS.out
          rw [HL.out] at this
          exact this
        case measure => simp [intOf]; omega
      · have hsame : RowIs wr w.heap.size (mix s (pos + 1)) := by
          have hk := mix_keep s pos 1 (keep1 s pos hl (by rw [HCC.out]; exact hu))
          rw [hk]
          exact hrow
        have HH := hide hsame
        clear hsame
        by_cases h65 : 65 ≤ c
        · have h90 : ¬ c ≤ 90 := by omega
          go_wp2
          go_roundw
          case rel => exact ⟨pos + 1, by omega, by go_num, hbw, HH.out⟩
          case measure => simp [intOf]; omega
        · go_wp2
          go_roundw
          case rel => exact ⟨pos + 1, by omega, by go_num, hbw, HH.out⟩
          case measure => simp [intOf]; omega
    · rw [mix_end s pos hlt] at hrow
      have hcb := conv_back wr w.heap.size (grownCap w s.size 0 5) s.size (lower (bl s)) (by unfold lower; rw [List.length_map]; exact bl_len s) hrow
      go_wp2
      go_ret
      exact ⟨rfl, hbw⟩

end Go.Proofs.YtbcadeikdmlpoaaDoor.Ul

namespace Go.Proofs.YtbcadeikdmlpoaaDoor.Ul
open Go.RowKit
open Utf1

theorem le32 (c : UInt8) : decide ((c.toNat : Int) ≤ 32) = blk c := by
  unfold blk
  by_cases h : c.toNat ≤ 32
  · rw [decide_eq_true h, decide_eq_true (by omega)]
  · rw [decide_eq_false h, decide_eq_false (by omega)]
theorem neK (c : UInt8) (n : Nat) (hn : n < 256) : ((c.toNat : Int) != (n : Int)) = decide (c ≠ UInt8.ofNat n) := by
  by_cases h : c = UInt8.ofNat n
  · have e : (c.toNat : Int) = (n : Int) := by rw [h, toNat_ofNat hn]
    rw [decide_eq_false (fun e => e h), e]
    simp
  · have e : ¬ (c.toNat : Int) = (n : Int) := fun e => h ((u8_eq hn).2 (by omega))
    rw [decide_eq_true h]
    simpa using e
set_option maxHeartbeats 4000000 in
theorem rbare_any (s : ByteArray) (hs : s.size ≤ 100000) (w : World) :
    Calls Tryd.prog 59 #[.string s] w fun e w' => e = .returned (.string ⟨(bare (bl s)).toArray⟩) ∧ w' = w := by
  go_enter Tryd.func59, Tryd.ntmps59
  go_upto_block 0 with fail
  go_cut [3] from 7 to 18 (fun v wx => wx = w ∧ ∃ p : Nat, p ≤ s.size ∧ v = .int .i64 (p : Int) ∧ Hid (dropB (bl s) = (bl s).drop p))
  case first =>
    go_wp2_with fail
    go_loopg [3] s.size (fun g v wx => wx = w ∧ ∃ p : Nat, p + g = s.size ∧ v = .int .i64 (p : Int) ∧ Hid (dropB (bl s) = dropB ((bl s).drop p)))
    case atStart => exact ⟨rfl, 0, by omega, rfl, hide rfl⟩
    case round =>
      obtain ⟨rfl, p, hp, rfl, HD⟩ := hrel
      by_cases hlt : p < s.size
      · obtain ⟨c, hc⟩ := getK s p hlt
        have i0 := fun w => idxK hc w
        have hle := le32 c
        have hb := c.toNat_lt
        have HC := hide hc
        generalize (c.toNat : Int) = z at i0 hle
        clear hc hb
        cases hbk : blk c with
        | true =>
          rw [hbk] at hle
          have HN : Hid (dropB (bl s) = dropB ((bl s).drop (p + 1))) := hide (HD.out.trans (dropB_step HC.out hbk))
          clear hbk HD HC
          go_wp2_with fail
          go_roundg (gk - 1)
          case measure => omega
          case rel => exact ⟨rfl, p + 1, by omega, by first | rfl | simp, HN⟩
        | false =>
          rw [hbk] at hle
          have HN : Hid (dropB (bl s) = (bl s).drop p) := hide (HD.out.trans (dropB_stop HC.out hbk))
          clear hbk HD HC
          go_wp2_with fail
          go_meet
          exact ⟨rfl, p, by omega, rfl, HN⟩
      · have HN : Hid (dropB (bl s) = (bl s).drop p) := hide (by rw [HD.out, drop_all s p hlt]; rfl)
        clear HD
        go_wp2_with fail
        go_meet
        exact ⟨rfl, p, by omega, rfl, HN⟩
  case rest =>
  obtain ⟨rfl, p, hp, rfl, HP⟩ := hcut
  go_upto_block 2 with fail
  go_cut [4] from 21 to 32 (fun v wx => wx = wc ∧ ∃ q : Nat, p ≤ q ∧ q ≤ s.size ∧ v = .int .i64 (q : Int) ∧ Hid (trim (bl s) = ((bl s).take q).drop p))
  case first =>
    go_wp2_with fail
    go_loopg [4] (s.size - p) (fun g v wx => wx = wc ∧ ∃ q : Nat, q ≤ p + g ∧ p + g ≤ q ∧ q ≤ s.size ∧ v = .int .i64 (q : Int) ∧ Hid (dropE ((bl s).drop p) = dropE (((bl s).take q).drop p)))
    case atStart => exact ⟨rfl, s.size, by omega, by omega, by omega, rfl, hide (by rw [List.take_of_length_le (by rw [bl_len]; exact Nat.le_refl _)])⟩
    case round =>
      obtain ⟨rfl, q, hq, hq2, hqs, rfl, HD⟩ := hrel
      by_cases hlt : p < q
      · obtain ⟨k, rfl⟩ : ∃ k, q = k + 1 := ⟨q - 1, by omega⟩
        obtain ⟨c, hc⟩ := getK s k (by omega)
        have i0 := fun w => idxK hc w
        have hle := le32 c
        have HC := hide hc
        generalize (c.toNat : Int) = z at i0 hle
        clear hc
        cases hbk : blk c with
        | true =>
          rw [hbk] at hle
          have HN : Hid (dropE ((bl s).drop p) = dropE (((bl s).take k).drop p)) := hide (HD.out.trans (dropE_step (by omega) HC.out hbk))
          clear hbk HD HC
          go_wp2_with fail
          go_roundg (gk - 1)
          case measure => omega
          case rel => exact ⟨rfl, k, by omega, by omega, by omega, by first | rfl | simp, HN⟩
        | false =>
          rw [hbk] at hle
          have HN : Hid (trim (bl s) = ((bl s).take (k + 1)).drop p) := hide (trim_seg HP.out (HD.out.trans (dropE_stop (by omega) HC.out hbk)))
          clear hbk HD HC
          go_wp2_with fail
          go_meet
          exact ⟨rfl, k + 1, by omega, by omega, rfl, HN⟩
      · have HN : Hid (trim (bl s) = ((bl s).take q).drop p) := hide (trim_seg HP.out (by
          have e : ((bl s).take q).drop p = [] := by
            rw [List.drop_eq_nil_iff, List.length_take]
            omega
          rw [HD.out, e]
          rfl))
        clear HD
        go_wp2_with fail
        go_meet
        exact ⟨rfl, q, by omega, by omega, rfl, HN⟩
  case rest =>
  obtain ⟨rfl, q, hpq, hqs, rfl, HT⟩ := hcut
  go_wp2_with fail
  go_loopg [5, 6] (q - p) (fun g va vi wx => wx = wc ∧ ∃ (j : Nat) (acc : ByteArray), j + g = q ∧ va = .string acc ∧ vi = .int .i64 (j : Int) ∧ acc.size ≤ j ∧ Hid (bl acc ++ (((bl s).take q).drop j).filter kept = bare (bl s)))
  case atStart => exact ⟨rfl, p, ⟨#[]⟩, by omega, rfl, rfl, Nat.zero_le _, hide (by unfold bare; rw [HT.out]; rfl)⟩
  case round =>
    obtain ⟨rfl, j, acc, hj, rfl, rfl, hal, HA⟩ := hrel
    by_cases hlt : j < q
    · obtain ⟨c, hc⟩ := getK s j (by omega)
      have i0 := fun w => idxK hc w
      have n9 : ((c.toNat : Int) != 9) = decide (c ≠ 9) := neK c 9 (by decide)
      have n10 : ((c.toNat : Int) != 10) = decide (c ≠ 10) := neK c 10 (by decide)
      have n13 : ((c.toNat : Int) != 13) = decide (c ≠ 13) := neK c 13 (by decide)
      have hone : bl (s.extract j (j + 1)) = [c] := by
        obtain ⟨hl, e⟩ := List.getElem?_eq_some_iff.1 hc
        rw [extract_bl, List.drop_eq_getElem_cons hl, e, show j + 1 - j = 1 by omega]
        rfl
      have hoz : (s.extract j (j + 1)).size = 1 := by rw [← bl_len, hone]; rfl
      have hns : (acc ++ s.extract j (j + 1)).size ≤ j + 1 := by rw [app_size]; omega
      have hseg := seg_cons hlt hc
      have HK : Hid (bl acc ++ (if kept c = true then c :: (((bl s).take q).drop (j + 1)).filter kept else (((bl s).take q).drop (j + 1)).filter kept) = bare (bl s)) := hide (by
        rw [← HA.out, hseg, filter_kept_cons])
      have HON := hide hone
      clear hseg hone hc HA
      by_cases h9 : c = 9
      · have HN : Hid (bl acc ++ (((bl s).take q).drop (j + 1)).filter kept = bare (bl s)) := hide (by rw [← HK.out, h9]; rfl)
        rw [decide_eq_false (fun e => e h9)] at n9
        generalize (c.toNat : Int) = z at i0 n9
        clear h9 n10 n13 HK HON
        go_wp2_with fail
        go_roundg (gk - 1)
        case measure => omega
        case rel => exact ⟨rfl, j + 1, acc, by omega, rfl, by first | rfl | simp, by omega, HN⟩
      · rw [decide_eq_true h9] at n9
        by_cases h10 : c = 10
        · have HN : Hid (bl acc ++ (((bl s).take q).drop (j + 1)).filter kept = bare (bl s)) := hide (by rw [← HK.out, h10]; rfl)
          rw [decide_eq_false (fun e => e h10)] at n10
          generalize (c.toNat : Int) = z at i0 n9 n10
          clear h9 h10 n13 HK HON
          go_wp2_with fail
          go_roundg (gk - 1)
          case measure => omega
          case rel => exact ⟨rfl, j + 1, acc, by omega, rfl, by first | rfl | simp, by omega, HN⟩
        · rw [decide_eq_true h10] at n10
          by_cases h13 : c = 13
          · have HN : Hid (bl acc ++ (((bl s).take q).drop (j + 1)).filter kept = bare (bl s)) := hide (by rw [← HK.out, h13]; rfl)
            rw [decide_eq_false (fun e => e h13)] at n13
            generalize (c.toNat : Int) = z at i0 n9 n10 n13
            clear h9 h10 h13 HK HON
            go_wp2_with fail
            go_roundg (gk - 1)
            case measure => omega
            case rel => exact ⟨rfl, j + 1, acc, by omega, rfl, by first | rfl | simp, by omega, HN⟩
          · rw [decide_eq_true h13] at n13
            have hk : kept c = true := by unfold kept; exact decide_eq_true ⟨h9, h10, h13⟩
            have HN : Hid (bl (acc ++ s.extract j (j + 1)) ++ (((bl s).take q).drop (j + 1)).filter kept = bare (bl s)) := hide (by
              have := HK.out
              rw [if_pos hk] at this
              rw [app_bl, HON.out, ← this]
              simp)
            generalize (c.toNat : Int) = z at i0 n9 n10 n13
            clear h9 h10 h13 hk HK HON
            go_wp2_with fail
            go_roundg (gk - 1)
            case measure => omega
            case rel => exact ⟨rfl, j + 1, _, by omega, rfl, by first | rfl | simp, hns, HN⟩
    · have HR : Hid (bl acc = bare (bl s)) := hide (by
        have e : ((bl s).take q).drop j = [] := by
          rw [List.drop_eq_nil_iff, List.length_take]
          omega
        have := HA.out
        rw [e] at this
        simpa using this)
      clear HA
      go_wp2_with fail
      go_ret
      rw [← HR.out]
      exact ⟨rfl, rfl⟩
end Go.Proofs.YtbcadeikdmlpoaaDoor.Ul

namespace Go.Proofs.YtbcadeikdmlpoaaDoor.Ul
open Go.RowKit
open Utf1

def schS : Option (List UInt8) → ByteArray
  | some x => ⟨x.toArray⟩
  | none => ⟨#[]⟩

set_option maxHeartbeats 4000000 in
theorem rscheme_any (s : ByteArray) (hs : s.size ≤ 100000) (w : World) :
    Calls Tryd.prog 58 #[.string s] w fun e w' => e = .returned (.tuple #[.string (schS (scheme (bl s))), .bool (scheme (bl s)).isSome]) ∧ Below w.heap.size w w' := by
  have c1 := fun w => rbare_any s hs w
  have hbl := bare_len (bl s)
  rw [bl_len] at hbl
  have c2 := fun w => rlower_any (⟨(bare (bl s)).toArray⟩ : ByteArray) w (by rw [size_mk]; omega)
  have HB0 : Hid (bl ⟨(lower (bare (bl s))).toArray⟩ = lower (bare (bl s))) := hide rfl
  have hbs : (⟨(lower (bare (bl s))).toArray⟩ : ByteArray).size ≤ 100000 := by
    rw [size_mk]
    unfold lower
    rw [List.length_map]
    omega
  have e2 : lower (bl (⟨(bare (bl s)).toArray⟩ : ByteArray)) = lower (bare (bl s)) := rfl
  rw [e2] at c2
  have HS : Hid (scheme (bl s) = schA (bl (⟨(lower (bare (bl s))).toArray⟩ : ByteArray))) := hide rfl
  generalize (⟨(bare (bl s)).toArray⟩ : ByteArray) = A at c1 c2
  generalize (⟨(lower (bare (bl s))).toArray⟩ : ByteArray) = B at c2 HB0 hbs HS
  clear hbl e2
  go_enter Tryd.func58, Tryd.ntmps58
  go_wp2_with fail
  refine (c1 _).mono ?_
  rintro e w1 ⟨rfl, rfl⟩
  go_wp2_with fail
  refine (c2 _).mono ?_
  rintro e w2 ⟨rfl, HB⟩
  clear c1 c2
  go_wp2_with fail
  go_loopg [5] B.size (fun g v wx => wx = w2 ∧ ∃ p : Nat, p + g = B.size ∧ v = .int .i64 (p : Int) ∧ Hid (scheme (bl s) = schP (bl B) p))
  case atStart => exact ⟨rfl, 0, by omega, rfl, hide (by rw [HS.out, schP_zero])⟩
  case round =>
    obtain ⟨rfl, p, hp, rfl, HD⟩ := hrel
    by_cases hlt : p < B.size
    · obtain ⟨c, hc⟩ := getK B p hlt
      have i00 := fun w => idxK hc w
      have hcb := c.toNat_lt
      have HGO : Hid (c.toNat ≠ 58 → ((97 ≤ c.toNat ∧ c.toNat ≤ 122) ∨ (p ≠ 0 ∧ ((48 ≤ c.toNat ∧ c.toNat ≤ 57) ∨ c.toNat = 43 ∨ c.toNat = 45 ∨ c.toNat = 46))) → scheme (bl s) = schP (bl B) (p + 1)) := hide (fun h58 ho => by
        rw [HD.out]
        apply schP_go hc (ne_of_toNat h58)
        rcases ho with h | h
        · exact .inl (letB_yes h.1 h.2)
        · exact .inr ⟨h.1, schB_yes h.2⟩)
      have HMI : Hid ((c.toNat < 97 ∨ 122 < c.toNat) → (p = 0 ∨ (c.toNat ≠ 58 ∧ (c.toNat < 48 ∨ 57 < c.toNat) ∧ c.toNat ≠ 43 ∧ c.toNat ≠ 45 ∧ c.toNat ≠ 46)) → scheme (bl s) = none) := hide (fun hl ho => by
        rw [HD.out]
        apply schP_miss hc (letB_no hl)
        rcases ho with h | h
        · exact .inl h
        · exact .inr ⟨ne_of_toNat h.1, schB_no hl h.2.1 h.2.2⟩)
      have HHI : Hid (c.toNat = 58 → p ≠ 0 → scheme (bl s) = some ((bl B).take p)) := hide (fun h h0 => by
        have e : c = 58 := UInt8.toNat_inj.1 h
        rw [e] at hc
        rw [HD.out, schP_hit hc h0])
      have HX : Hid (schS (some ((bl B).take p)) = B.extract 0 p) := hide (by rw [extract_take]; rfl)
      obtain ⟨n, hn⟩ : ∃ n, n = c.toNat := ⟨_, rfl⟩
      rw [← hn] at i00 hcb HGO HMI HHI
      have i0 : ∀ w, (Instr.index 9 (.string B) (.int .i64 (p : Int))).run Tryd.prog w = .ok (.int .u8 (n : Int)) w := i00
      clear i00 hn hc HD
      by_cases hlet : 97 ≤ n ∧ n ≤ 122
      · have HN := hide (HGO.out (by omega) (.inl ⟨by omega, by omega⟩))
        have d97 : decide ((97 : Int) ≤ (n : Int)) = true := decide_eq_true (by omega)
        have d122 : decide ((n : Int) ≤ 122) = true := decide_eq_true (by omega)
        have q58 : ((n : Int) == 58) = false := beq_eq_false_iff_ne.2 (by omega)
        clear HGO HMI HHI HX hlet
        go_wp2_with fail
        go_roundg (gk - 1)
        case measure => omega
        case rel => exact ⟨rfl, p + 1, by omega, by first | rfl | simp, HN⟩
      · by_cases hz : p = 0
        · rcases (show n = 58 ∨ (n < 97 ∧ n ≠ 58) ∨ 122 < n from by omega) with h | h | h
          · have HN := hide (HMI.out (by omega) (by omega))
            have d97 : decide ((97 : Int) ≤ (n : Int)) = false := decide_eq_false (by omega)
            have q58 : ((n : Int) == 58) = true := beq_iff_eq.2 (by omega)
            have dp : ¬ 0 < p := by omega
            have z0 : ((p : Int) == 0) = true := beq_iff_eq.2 (by omega)
            clear HGO HMI HHI HX h hlet hz
            go_wp2_with fail
            go_ret2
            rw [HN.out]
            exact ⟨rfl, HB⟩
          · have HN := hide (HMI.out (by omega) (by omega))
            have d97 : decide ((97 : Int) ≤ (n : Int)) = false := decide_eq_false (by omega)
            have q58 : ((n : Int) == 58) = false := beq_eq_false_iff_ne.2 (by omega)
            have z0 : ((p : Int) == 0) = true := beq_iff_eq.2 (by omega)
            clear HGO HMI HHI HX h hlet hz
            go_wp2_with fail
            go_ret2
            rw [HN.out]
            exact ⟨rfl, HB⟩
          · have HN := hide (HMI.out (by omega) (by omega))
            have d97 : decide ((97 : Int) ≤ (n : Int)) = true := decide_eq_true (by omega)
            have d122 : decide ((n : Int) ≤ 122) = false := decide_eq_false (by omega)
            have q58 : ((n : Int) == 58) = false := beq_eq_false_iff_ne.2 (by omega)
            have z0 : ((p : Int) == 0) = true := beq_iff_eq.2 (by omega)
            clear HGO HMI HHI HX h hlet hz
            go_wp2_with fail
            go_ret2
            rw [HN.out]
            exact ⟨rfl, HB⟩
        · rcases (show n = 58 ∨ (48 ≤ n ∧ n ≤ 57) ∨ n = 43 ∨ n = 45 ∨ n = 46 ∨ (n < 48 ∧ n ≠ 43 ∧ n ≠ 45 ∧ n ≠ 46) ∨ (58 < n ∧ n < 97) ∨ 122 < n from by omega) with h | h | h | h | h | h | h | h
          · have HN := hide (HHI.out (by omega) (by omega))
            have d97 : decide ((97 : Int) ≤ (n : Int)) = false := decide_eq_false (by omega)
            have q58 : ((n : Int) == 58) = true := beq_iff_eq.2 (by omega)
            have dp : 0 < p := by omega
            clear HGO HMI HHI h hlet hz
            go_wp2_with fail
            go_ret2
            rw [HN.out, HX.out]
            exact ⟨rfl, HB⟩
          · have HN := hide (HGO.out (by omega) (.inr ⟨by omega, by omega⟩))
            have d97 : decide ((97 : Int) ≤ (n : Int)) = false := decide_eq_false (by omega)
            have q58 : ((n : Int) == 58) = false := beq_eq_false_iff_ne.2 (by omega)
            have z0 : ((p : Int) == 0) = false := beq_eq_false_iff_ne.2 (by omega)
            have d48 : decide ((48 : Int) ≤ (n : Int)) = true := decide_eq_true (by omega)
            have d57 : decide ((n : Int) ≤ 57) = true := decide_eq_true (by omega)
            clear HGO HMI HHI HX h hlet hz
            go_wp2_with fail
            go_roundg (gk - 1)
            case measure => omega
            case rel => exact ⟨rfl, p + 1, by omega, by first | rfl | simp, HN⟩
          · have HN := hide (HGO.out (by omega) (.inr ⟨by omega, by omega⟩))
            have d97 : decide ((97 : Int) ≤ (n : Int)) = false := decide_eq_false (by omega)
            have q58 : ((n : Int) == 58) = false := beq_eq_false_iff_ne.2 (by omega)
            have z0 : ((p : Int) == 0) = false := beq_eq_false_iff_ne.2 (by omega)
            have d48 : decide ((48 : Int) ≤ (n : Int)) = false := decide_eq_false (by omega)
            have n43 : ((n : Int) != 43) = false := by simp; omega
            clear HGO HMI HHI HX h hlet hz
            go_wp2_with fail
            go_roundg (gk - 1)
            case measure => omega
            case rel => exact ⟨rfl, p + 1, by omega, by first | rfl | simp, HN⟩
          · have HN := hide (HGO.out (by omega) (.inr ⟨by omega, by omega⟩))
            have d97 : decide ((97 : Int) ≤ (n : Int)) = false := decide_eq_false (by omega)
            have q58 : ((n : Int) == 58) = false := beq_eq_false_iff_ne.2 (by omega)
            have z0 : ((p : Int) == 0) = false := beq_eq_false_iff_ne.2 (by omega)
            have d48 : decide ((48 : Int) ≤ (n : Int)) = false := decide_eq_false (by omega)
            have n43 : ((n : Int) != 43) = true := by simp; omega
            have n45 : ((n : Int) != 45) = false := by simp; omega
            clear HGO HMI HHI HX h hlet hz
            go_wp2_with fail
            go_roundg (gk - 1)
            case measure => omega
            case rel => exact ⟨rfl, p + 1, by omega, by first | rfl | simp, HN⟩
          · have HN := hide (HGO.out (by omega) (.inr ⟨by omega, by omega⟩))
            have d97 : decide ((97 : Int) ≤ (n : Int)) = false := decide_eq_false (by omega)
            have q58 : ((n : Int) == 58) = false := beq_eq_false_iff_ne.2 (by omega)
            have z0 : ((p : Int) == 0) = false := beq_eq_false_iff_ne.2 (by omega)
            have d48 : decide ((48 : Int) ≤ (n : Int)) = false := decide_eq_false (by omega)
            have n43 : ((n : Int) != 43) = true := by simp; omega
            have n45 : ((n : Int) != 45) = true := by simp; omega
            have n46 : ((n : Int) != 46) = false := by simp; omega
            clear HGO HMI HHI HX h hlet hz
            go_wp2_with fail
            go_roundg (gk - 1)
            case measure => omega
            case rel => exact ⟨rfl, p + 1, by omega, by first | rfl | simp, HN⟩
          · have HN := hide (HMI.out (by omega) (by omega))
            have d97 : decide ((97 : Int) ≤ (n : Int)) = false := decide_eq_false (by omega)
            have q58 : ((n : Int) == 58) = false := beq_eq_false_iff_ne.2 (by omega)
            have z0 : ((p : Int) == 0) = false := beq_eq_false_iff_ne.2 (by omega)
            have d48 : decide ((48 : Int) ≤ (n : Int)) = false := decide_eq_false (by omega)
            have n43 : ((n : Int) != 43) = true := by simp; omega
            have n45 : ((n : Int) != 45) = true := by simp; omega
            have n46 : ((n : Int) != 46) = true := by simp; omega
            clear HGO HMI HHI HX h hlet hz
            go_wp2_with fail
            go_ret2
            rw [HN.out]
            exact ⟨rfl, HB⟩
          · have HN := hide (HMI.out (by omega) (by omega))
            have d97 : decide ((97 : Int) ≤ (n : Int)) = false := decide_eq_false (by omega)
            have q58 : ((n : Int) == 58) = false := beq_eq_false_iff_ne.2 (by omega)
            have z0 : ((p : Int) == 0) = false := beq_eq_false_iff_ne.2 (by omega)
            have d48 : decide ((48 : Int) ≤ (n : Int)) = true := decide_eq_true (by omega)
            have d57 : decide ((n : Int) ≤ 57) = false := decide_eq_false (by omega)
            have n43 : ((n : Int) != 43) = true := by simp; omega
            have n45 : ((n : Int) != 45) = true := by simp; omega
            have n46 : ((n : Int) != 46) = true := by simp; omega
            clear HGO HMI HHI HX h hlet hz
            go_wp2_with fail
            go_ret2
            rw [HN.out]
            exact ⟨rfl, HB⟩
          · have HN := hide (HMI.out (by omega) (by omega))
            have d97 : decide ((97 : Int) ≤ (n : Int)) = true := decide_eq_true (by omega)
            have d122 : decide ((n : Int) ≤ 122) = false := decide_eq_false (by omega)
            have q58 : ((n : Int) == 58) = false := beq_eq_false_iff_ne.2 (by omega)
            have z0 : ((p : Int) == 0) = false := beq_eq_false_iff_ne.2 (by omega)
            have d48 : decide ((48 : Int) ≤ (n : Int)) = true := decide_eq_true (by omega)
            have d57 : decide ((n : Int) ≤ 57) = false := decide_eq_false (by omega)
            have n43 : ((n : Int) != 43) = true := by simp; omega
            have n45 : ((n : Int) != 45) = true := by simp; omega
            have n46 : ((n : Int) != 46) = true := by simp; omega
            clear HGO HMI HHI HX h hlet hz
            go_wp2_with fail
            go_ret2
            rw [HN.out]
            exact ⟨rfl, HB⟩
    · have HN : Hid (scheme (bl s) = none) := hide (by rw [HD.out, schP_end (by rw [bl_len]; omega)])
      clear HD
      go_wp2_with fail
      go_ret2
      rw [HN.out]
      exact ⟨rfl, HB⟩
end Go.Proofs.YtbcadeikdmlpoaaDoor.Ul

namespace Go.Proofs.YtbcadeikdmlpoaaDoor.Ul
open Go.RowKit
open Utf1

theorem lt32 (c : UInt8) : decide ((c.toNat : Int) < 32) = decide (c.toNat < 32) := by
  by_cases h : c.toNat < 32
  · rw [decide_eq_true h, decide_eq_true (by omega)]
  · rw [decide_eq_false h, decide_eq_false (by omega)]
theorem any_bad {b : List UInt8} {c : UInt8} {j : Nat} (h : b[j]? = some c) (hc : badB c = true) : plainOk b = false := by
  unfold plainOk
  rw [Bool.and_eq_false_iff]
  right
  rw [List.all_eq_false]
  refine ⟨c, List.mem_of_getElem? h, ?_⟩
  rw [hc]
  decide
theorem take_two (s : ByteArray) : (s.extract 0 2) = ⟨((bl s).take 2).toArray⟩ := extract_take s 2
theorem mem_upto {ss : List ByteArray} {x : List UInt8} {i : Nat} {y : ByteArray} (h : ss[i]? = some y) (hn : ∀ j z, j < i → ss[j]? = some z → bl z ≠ x) (hy : bl y ≠ x) : ∀ j z, j < i + 1 → ss[j]? = some z → bl z ≠ x := by
  intro j z hj hz
  by_cases e : j = i
  · subst e
    rw [h] at hz
    cases hz
    exact hy
  · exact hn j z (by omega) hz
theorem not_mem_of {ss : List ByteArray} {x : List UInt8} {N : Nat} (hN : ss.length ≤ N) (h : ∀ j z, j < N → ss[j]? = some z → bl z ≠ x) : x ∉ ss.map bl := by
  intro hx
  obtain ⟨y, hy, e⟩ := List.mem_map.1 hx
  obtain ⟨j, hj, e2⟩ := List.mem_iff_getElem.1 hy
  exact h j y (by omega) (by rw [List.getElem?_eq_getElem hj, e2]) e

set_option maxHeartbeats 4000000 in
theorem rallowed_any (s : ByteArray) (v : Value) (ss : List ByteArray) (hs : s.size ≤ 100000) (hl : ss.length ≤ 100000) (w : World) (hv : StrArg w v ss) :
    Calls Tryd.prog 25 #[.string s, v] w fun e w' => e = .returned (.bool (allowed (bl s) (ss.map bl))) ∧ Below w.heap.size w w' := by
  have c1 := fun w => rscheme_any s hs w
  have c2 := fun w => rbare_any s hs w
  have HAL : Hid (allowed (bl s) (ss.map bl) = match scheme (bl s) with
    | some x => decide (x ∈ ss.map bl)
    | none => plainOk (bare (bl s))) := hide rfl
  obtain ⟨R, hR⟩ : ∃ R, R = allowed (bl s) (ss.map bl) := ⟨_, rfl⟩
  rw [← hR] at HAL ⊢
  clear hR
  have hbl := bare_len (bl s)
  rw [bl_len] at hbl
  cases hsc : scheme (bl s) with
  | some x =>
    rw [hsc] at c1 HAL
    have c1 : ∀ w, Calls Tryd.prog 58 #[.string s] w fun e w' => e = .returned (.tuple #[.string ⟨x.toArray⟩, .bool true]) ∧ Below w.heap.size w w' := c1
    have HAL : Hid (R = decide (x ∈ ss.map bl)) := HAL
    have HX : Hid (bl ⟨x.toArray⟩ = x) := hide rfl
    generalize (⟨x.toArray⟩ : ByteArray) = X at c1 HX
    obtain ⟨p, cap, rfl, -, hc⟩ := hv
    have HC := hide hc
    obtain ⟨N, hN⟩ : ∃ N, N = ss.length := ⟨_, rfl⟩
    rw [← hN] at hl ⊢
    have HN := hide hN
    clear hc hN hsc c2 hbl
    go_enter Tryd.func25, Tryd.ntmps25
    go_wp2_with fail
    refine (c1 _).mono ?_
    rintro e w1 ⟨rfl, hb1⟩
    have HB := hide hb1
    clear c1 hb1
    go_wp2_with fail
    go_loopg [7] N (fun g v wx => wx = w1 ∧ ∃ i : Nat, i + g = N ∧ v = .int .i64 (i : Int) ∧ Hid (∀ j z, j < i → ss[j]? = some z → bl z ≠ x))
    case atStart => exact ⟨rfl, 0, by omega, rfl, hide (fun j z hj => by omega)⟩
    case round =>
      obtain ⟨rfl, i, hi, rfl, HU⟩ := hrel
      by_cases hlt : i < N
      · have hlt' : i < ss.length := by rw [← HN.out]; exact hlt
        have hge : ss[i]? = some ss[i] := List.getElem?_eq_getElem hlt'
        generalize ss[i] = y at hge
        obtain ⟨b, off, rfl, c0⟩ := HC.out i y hge
        have c0 := cell_keep c0 HB.out
        have q0 := eq_two y X
        have HG := hide hge
        clear hge hlt'
        by_cases hy : bl y = bl X
        · rw [decide_eq_true hy] at q0
          have HR : Hid (R = true) := hide (by
            rw [HAL.out]
            apply decide_eq_true
            rw [← HX.out, ← hy]
            exact List.mem_map_of_mem (List.mem_of_getElem? HG.out))
          clear hy HU HG
          go_wp2_with fail
          go_ret
          rw [HR.out]
          exact ⟨rfl, HB.out⟩
        · rw [decide_eq_false hy] at q0
          have HU2 := hide (mem_upto HG.out HU.out (by rw [← HX.out]; exact hy))
          clear hy HU HG
          go_wp2_with fail
          go_roundg (gk - 1)
          case measure => omega
          case rel => exact ⟨rfl, i + 1, by omega, by first | rfl | simp, HU2⟩
      · have HR : Hid (R = false) := hide (by
          rw [HAL.out]
          apply decide_eq_false
          exact not_mem_of (N := i) (by rw [← HN.out]; omega) HU.out)
        clear HU
        go_wp2_with fail
        go_ret
        rw [HR.out]
        exact ⟨rfl, HB.out⟩
  | none =>
    rw [hsc] at c1 HAL
    have c1 : ∀ w, Calls Tryd.prog 58 #[.string s] w fun e w' => e = .returned (.tuple #[.string ⟨#[]⟩, .bool false]) ∧ Below w.heap.size w w' := c1
    have HAL : Hid (R = plainOk (bare (bl s))) := HAL
    have hbs : (⟨(bare (bl s)).toArray⟩ : ByteArray).size ≤ 100000 := by rw [size_mk]; omega
    have HB0 : Hid (bare (bl s) = bl (⟨(bare (bl s)).toArray⟩ : ByteArray)) := hide rfl
    generalize (⟨(bare (bl s)).toArray⟩ : ByteArray) = B at c2 hbs HB0
    have HAL : Hid (R = plainOk (bl B)) := hide (by rw [← HB0.out]; exact HAL.out)
    obtain ⟨pv, cap, rfl, -, -⟩ := hv
    have q0 := eq_lit (B.extract 0 2) [47, 47]
    rw [take_two B] at q0
    have q0 : ((B.extract 0 2).toList == [47, 47]) = decide ((bl B).take 2 = [47, 47]) := by rw [take_two B]; exact q0
    clear hsc hbl HB0
    go_enter Tryd.func25, Tryd.ntmps25
    go_wp2_with fail
    refine (c1 _).mono ?_
    rintro e w1 ⟨rfl, hb1⟩
    have HB := hide hb1
    clear c1 hb1
    go_wp2_with fail
    refine (c2 _).mono ?_
    rintro e w2 ⟨rfl, rfl⟩
    clear c2
    by_cases h2 : (bl B).take 2 = [47, 47]
    · rw [decide_eq_true h2] at q0
      have hsz : 1 < B.size := by
        have := congrArg List.length h2
        rw [List.length_take, bl_len] at this
        simp at this
        omega
      have HR : Hid (R = false) := hide (by
        rw [HAL.out]
        unfold plainOk
        rw [decide_eq_true h2]
        rfl)
      clear h2 HAL
      go_wp2_with fail
      go_ret
      rw [HR.out]
      exact ⟨rfl, HB.out⟩
    · rw [decide_eq_false h2] at q0
      have HAL : Hid (R = (bl B).all (fun c => !badB c)) := hide (by
        rw [HAL.out]
        unfold plainOk
        rw [decide_eq_false h2]
        rfl)
      have HBAD : Hid (∀ (j : Nat) (c : UInt8), (bl B)[j]? = some c → badB c = true → R = false) := hide (fun j c h hc => by
        rw [HAL.out, List.all_eq_false]
        exact ⟨c, List.mem_of_getElem? h, by rw [hc]; decide⟩)
      clear h2
      by_cases hsz : 1 < B.size
      · go_wp2_with fail
        go_loopg [9] B.size (fun g v wx => wx = w2 ∧ ∃ i : Nat, i + g = B.size ∧ v = .int .i64 (i : Int) ∧ Hid (∀ j c, j < i → (bl B)[j]? = some c → badB c = false))
        case atStart => exact ⟨rfl, 0, by omega, rfl, hide (fun j z hj => by omega)⟩
        case round =>
          obtain ⟨rfl, i, hi, rfl, HU⟩ := hrel
          by_cases hlt : i < B.size
          · obtain ⟨c, hc⟩ := getK B i hlt
            have i0 := fun w => idxK hc w
            have k32 := lt32 c
            have k92 : ((c.toNat : Int) == 92) = decide (c = 92) := beqK c 92 (by decide)
            have k127 : ((c.toNat : Int) == 127) = decide (c = 127) := beqK c 127 (by decide)
            have HRB : Hid (badB c = true → R = false) := hide (HBAD.out i c hc)
            have HU2 : Hid (badB c = false → ∀ j d, j < i + 1 → (bl B)[j]? = some d → badB d = false) := hide (fun hb j d hj hd => by
              by_cases e : j = i
              · subst e
                rw [hc] at hd
                cases hd
                exact hb
              · exact HU.out j d (by omega) hd)
            clear hc HU
            by_cases h32 : c.toNat < 32
            · rw [decide_eq_true h32] at k32
              have HR : Hid (R = false) := hide (HRB.out (decide_eq_true (.inl h32)))
              generalize (c.toNat : Int) = z at i0 k32
              clear k92 k127 HRB HU2 h32
              go_wp2_with fail
              go_ret
              rw [HR.out]
              exact ⟨rfl, HB.out⟩
            · rw [decide_eq_false h32] at k32
              by_cases h92 : c = 92
              · rw [decide_eq_true h92] at k92
                have HR : Hid (R = false) := hide (HRB.out (decide_eq_true (.inr (.inl h92))))
                generalize (c.toNat : Int) = z at i0 k32 k92
                clear k127 HRB HU2 h32 h92
                go_wp2_with fail
                go_ret
                rw [HR.out]
                exact ⟨rfl, HB.out⟩
              · rw [decide_eq_false h92] at k92
                by_cases h127 : c = 127
                · rw [decide_eq_true h127] at k127
                  have HR : Hid (R = false) := hide (HRB.out (decide_eq_true (.inr (.inr h127))))
                  generalize (c.toNat : Int) = z at i0 k32 k92 k127
                  clear HRB HU2 h32 h92 h127
                  go_wp2_with fail
                  go_ret
                  rw [HR.out]
                  exact ⟨rfl, HB.out⟩
                · rw [decide_eq_false h127] at k127
                  have HU3 := hide (HU2.out (decide_eq_false (by rintro (h | h | h); exact h32 h; exact h92 h; exact h127 h)))
                  generalize (c.toNat : Int) = z at i0 k32 k92 k127
                  clear HRB HU2 h32 h92 h127
                  go_wp2_with fail
                  go_roundg (gk - 1)
                  case measure => omega
                  case rel => exact ⟨rfl, i + 1, by omega, by first | rfl | simp, HU3⟩
          · have HR : Hid (R = true) := hide (by
              rw [HAL.out, List.all_eq_true]
              intro c hc
              obtain ⟨j, hj, e⟩ := List.mem_iff_getElem.1 hc
              have := HU.out j c (by rw [bl_len] at hj; omega) (by rw [List.getElem?_eq_getElem hj, e])
              rw [this]
              rfl)
            clear HU
            go_wp2_with fail
            go_ret
            rw [HR.out]
            exact ⟨rfl, HB.out⟩
      · clear q0
        go_wp2_with fail
        go_loopg [9] B.size (fun g v wx => wx = w2 ∧ ∃ i : Nat, i + g = B.size ∧ v = .int .i64 (i : Int) ∧ Hid (∀ j c, j < i → (bl B)[j]? = some c → badB c = false))
        case atStart => exact ⟨rfl, 0, by omega, rfl, hide (fun j z hj => by omega)⟩
        case round =>
          obtain ⟨rfl, i, hi, rfl, HU⟩ := hrel
          by_cases hlt : i < B.size
          · obtain ⟨c, hc⟩ := getK B i hlt
            have i0 := fun w => idxK hc w
            have k32 := lt32 c
            have k92 : ((c.toNat : Int) == 92) = decide (c = 92) := beqK c 92 (by decide)
            have k127 : ((c.toNat : Int) == 127) = decide (c = 127) := beqK c 127 (by decide)
            have HRB : Hid (badB c = true → R = false) := hide (HBAD.out i c hc)
            have HU2 : Hid (badB c = false → ∀ j d, j < i + 1 → (bl B)[j]? = some d → badB d = false) := hide (fun hb j d hj hd => by
              by_cases e : j = i
              · subst e
                rw [hc] at hd
                cases hd
                exact hb
              · exact HU.out j d (by omega) hd)
            clear hc HU
            by_cases h32 : c.toNat < 32
            · rw [decide_eq_true h32] at k32
              have HR : Hid (R = false) := hide (HRB.out (decide_eq_true (.inl h32)))
              generalize (c.toNat : Int) = z at i0 k32
              clear k92 k127 HRB HU2 h32
              go_wp2_with fail
              go_ret
              rw [HR.out]
              exact ⟨rfl, HB.out⟩
            · rw [decide_eq_false h32] at k32
              by_cases h92 : c = 92
              · rw [decide_eq_true h92] at k92
                have HR : Hid (R = false) := hide (HRB.out (decide_eq_true (.inr (.inl h92))))
                generalize (c.toNat : Int) = z at i0 k32 k92
                clear k127 HRB HU2 h32 h92
                go_wp2_with fail
                go_ret
                rw [HR.out]
                exact ⟨rfl, HB.out⟩
              · rw [decide_eq_false h92] at k92
                by_cases h127 : c = 127
                · rw [decide_eq_true h127] at k127
                  have HR : Hid (R = false) := hide (HRB.out (decide_eq_true (.inr (.inr h127))))
                  generalize (c.toNat : Int) = z at i0 k32 k92 k127
                  clear HRB HU2 h32 h92 h127
                  go_wp2_with fail
                  go_ret
                  rw [HR.out]
                  exact ⟨rfl, HB.out⟩
                · rw [decide_eq_false h127] at k127
                  have HU3 := hide (HU2.out (decide_eq_false (by rintro (h | h | h); exact h32 h; exact h92 h; exact h127 h)))
                  generalize (c.toNat : Int) = z at i0 k32 k92 k127
                  clear HRB HU2 h32 h92 h127
                  go_wp2_with fail
                  go_roundg (gk - 1)
                  case measure => omega
                  case rel => exact ⟨rfl, i + 1, by omega, by first | rfl | simp, HU3⟩
          · have HR : Hid (R = true) := hide (by
              rw [HAL.out, List.all_eq_true]
              intro c hc
              obtain ⟨j, hj, e⟩ := List.mem_iff_getElem.1 hc
              have := HU.out j c (by rw [bl_len] at hj; omega) (by rw [List.getElem?_eq_getElem hj, e])
              rw [this]
              rfl)
            clear HU
            go_wp2_with fail
            go_ret
            rw [HR.out]
            exact ⟨rfl, HB.out⟩
end Go.Proofs.YtbcadeikdmlpoaaDoor.Ul

namespace Go.Proofs.YtbcadeikdmlpoaaDoor.Ul
open Go.RowKit
open Utf1

def BareC : Prop := ∀ (s : ByteArray) (w : World), s.size ≤ 100000 → Calls Tryd.prog 46 #[.string s] w fun e w' => e = .returned (.string ⟨(bare (bl s)).toArray⟩) ∧ Below w.heap.size w w'
def SchemeC : Prop := ∀ (s : ByteArray) (w : World), s.size ≤ 100000 → Calls Tryd.prog 43 #[.string s] w fun e w' => e = .returned (.tuple #[.string (schS (scheme (bl s))), .bool (scheme (bl s)).isSome]) ∧ Below w.heap.size w w'
def AllowedC : Prop := ∀ (s : ByteArray) (v : Value) (ss : List ByteArray) (w : World), s.size ≤ 100000 → ss.length ≤ 100000 → StrArg w v ss → Calls Tryd.prog 16 #[.string s, v] w fun e w' => e = .returned (.bool (allowed (bl s) (ss.map bl))) ∧ Below w.heap.size w w'

theorem strArg_one (w : World) (x : ByteArray) (t : TypeId) : StrArg (w.alloc (.cells #[.string x] t)) (.slice (some ⟨w.heap.size, 0, none⟩) 1 1) [x] := by
  refine ⟨some ⟨w.heap.size, 0, none⟩, 1, rfl, fun h => (by cases h), fun i s h => ?_⟩
  match i, h with
  | 0, h =>
    have : x = s := by simpa using h
    subst this
    exact ⟨_, _, rfl, by simp⟩
  | i + 1, h => simp at h
end Go.Proofs.YtbcadeikdmlpoaaDoor.Ul

namespace Go.Proofs.YtbcadeikdmlpoaaDoor.Ul
open Go.RowKit
open Utf1

set_option maxHeartbeats 4000000 in
theorem bare_any : BareC := by
  intro s w hs
  go_enter Tryd.func46, Tryd.ntmps46
  go_upto_block 0 with fail
  go_cut [3] from 10 to 20 (fun v wx => wx = w ∧ ∃ p : Nat, p ≤ s.size ∧ v = .int .i64 (p : Int) ∧ Hid (dropB (bl s) = (bl s).drop p))
  case first =>
    go_wp2_with fail
    go_loopg [3] s.size (fun g v wx => wx = w ∧ ∃ p : Nat, p + g = s.size ∧ v = .int .i64 (p : Int) ∧ Hid (dropB (bl s) = dropB ((bl s).drop p)))
    case atStart => exact ⟨rfl, 0, by omega, rfl, hide rfl⟩
    case round =>
      obtain ⟨rfl, p, hp, rfl, HD⟩ := hrel
      by_cases hlt : p < s.size
      · obtain ⟨c, hc⟩ := getK s p hlt
        have i0 := fun w => idxK hc w
        have hle := le32 c
        have hb := c.toNat_lt
        have HC := hide hc
        generalize (c.toNat : Int) = z at i0 hle
        clear hc hb
        cases hbk : blk c with
        | true =>
          rw [hbk] at hle
          have HN : Hid (dropB (bl s) = dropB ((bl s).drop (p + 1))) := hide (HD.out.trans (dropB_step HC.out hbk))
          clear hbk HD HC
          go_wp2_with fail
          go_roundg (gk - 1)
          case measure => omega
          case rel => exact ⟨rfl, p + 1, by omega, by first | rfl | simp, HN⟩
        | false =>
          rw [hbk] at hle
          have HN : Hid (dropB (bl s) = (bl s).drop p) := hide (HD.out.trans (dropB_stop HC.out hbk))
          clear hbk HD HC
          go_wp2_with fail
          go_meet
          exact ⟨rfl, p, by omega, rfl, HN⟩
      · have HN : Hid (dropB (bl s) = (bl s).drop p) := hide (by rw [HD.out, drop_all s p hlt]; rfl)
        clear HD
        go_wp2_with fail
        go_meet
        exact ⟨rfl, p, by omega, rfl, HN⟩
  case rest =>
  obtain ⟨rfl, p, hp, rfl, HP⟩ := hcut
  go_upto_block 2 with fail
  go_cut [4] from 21 to 32 (fun v wx => wx = wc ∧ ∃ q : Nat, p ≤ q ∧ q ≤ s.size ∧ v = .int .i64 (q : Int) ∧ Hid (trim (bl s) = ((bl s).take q).drop p))
  case first =>
    go_wp2_with fail
    go_loopg [4] (s.size - p) (fun g v wx => wx = wc ∧ ∃ q : Nat, q ≤ p + g ∧ p + g ≤ q ∧ q ≤ s.size ∧ v = .int .i64 (q : Int) ∧ Hid (dropE ((bl s).drop p) = dropE (((bl s).take q).drop p)))
    case atStart => exact ⟨rfl, s.size, by omega, by omega, by omega, rfl, hide (by rw [List.take_of_length_le (by rw [bl_len]; exact Nat.le_refl _)])⟩
    case round =>
      obtain ⟨rfl, q, hq, hq2, hqs, rfl, HD⟩ := hrel
      by_cases hlt : p < q
      · obtain ⟨k, rfl⟩ : ∃ k, q = k + 1 := ⟨q - 1, by omega⟩
        obtain ⟨c, hc⟩ := getK s k (by omega)
        have i0 := fun w => idxK hc w
        have hle := le32 c
        have HC := hide hc
        generalize (c.toNat : Int) = z at i0 hle
        clear hc
        cases hbk : blk c with
        | true =>
          rw [hbk] at hle
          have HN : Hid (dropE ((bl s).drop p) = dropE (((bl s).take k).drop p)) := hide (HD.out.trans (dropE_step (by omega) HC.out hbk))
          clear hbk HD HC
          go_wp2_with fail
          go_roundg (gk - 1)
          case measure => omega
          case rel => exact ⟨rfl, k, by omega, by omega, by omega, by first | rfl | simp, HN⟩
        | false =>
          rw [hbk] at hle
          have HN : Hid (trim (bl s) = ((bl s).take (k + 1)).drop p) := hide (trim_seg HP.out (HD.out.trans (dropE_stop (by omega) HC.out hbk)))
          clear hbk HD HC
          go_wp2_with fail
          go_meet
          exact ⟨rfl, k + 1, by omega, by omega, rfl, HN⟩
      · have HN : Hid (trim (bl s) = ((bl s).take q).drop p) := hide (trim_seg HP.out (by
          have e : ((bl s).take q).drop p = [] := by
            rw [List.drop_eq_nil_iff, List.length_take]
            omega
          rw [HD.out, e]
          rfl))
        clear HD
        go_wp2_with fail
        go_meet
        exact ⟨rfl, q, by omega, by omega, rfl, HN⟩
  case rest =>
  obtain ⟨rfl, q, hpq, hqs, rfl, HT⟩ := hcut
  obtain ⟨w, rfl⟩ : ∃ w, w = wc := ⟨wc, rfl⟩
  go_wp2_with fail
  go_loopg [6] (q - p) (fun g vi wx => ∃ (j : Nat) (acc : List UInt8), j + g = q ∧ vi = .int .i64 (j : Int) ∧ acc.length ≤ j ∧ Lib.IsBuilderF 72 5 w.heap.size w.heap.size (Lib.byteCells acc) wx ∧ Below w.heap.size w wx ∧ Hid (acc ++ (((bl s).take q).drop j).filter kept = bare (bl s)))
  case atStart => exact ⟨p, [], by omega, rfl, Nat.zero_le _, Lib.IsBuilderF.of (Lib.fresh_isBuilder 72 5 w), (Below.refl _ w).alloc (Nat.le_refl _) _, hide (by unfold bare; rw [HT.out]; rfl)⟩
  case round =>
    obtain ⟨j, acc, hj, rfl, hal, hI, hbw, HA⟩ := hrel
    by_cases hlt : j < q
    · obtain ⟨c, hc⟩ := getK s j (by omega)
      have i0 := fun w => idxK hc w
      have n9 : ((c.toNat : Int) != 9) = decide (c ≠ 9) := neK c 9 (by decide)
      have n10 : ((c.toNat : Int) != 10) = decide (c ≠ 10) := neK c 10 (by decide)
      have n13 : ((c.toNat : Int) != 13) = decide (c ≠ 13) := neK c 13 (by decide)
      have hseg := seg_cons hlt hc
      have HK : Hid (acc ++ (if kept c = true then c :: (((bl s).take q).drop (j + 1)).filter kept else (((bl s).take q).drop (j + 1)).filter kept) = bare (bl s)) := hide (by
        rw [← HA.out, hseg, filter_kept_cons])
      clear hseg hc HA
      by_cases h9 : c = 9
      · have HN : Hid (acc ++ (((bl s).take q).drop (j + 1)).filter kept = bare (bl s)) := hide (by rw [← HK.out, h9]; rfl)
        rw [decide_eq_false (fun e => e h9)] at n9
        generalize (c.toNat : Int) = z at i0 n9
        clear h9 n10 n13 HK
        go_wp2_with fail
        go_roundg (gk - 1)
        case measure => omega
        case rel => exact ⟨j + 1, acc, by omega, by first | rfl | simp, by omega, hI, hbw, HN⟩
      · rw [decide_eq_true h9] at n9
        by_cases h10 : c = 10
        · have HN : Hid (acc ++ (((bl s).take q).drop (j + 1)).filter kept = bare (bl s)) := hide (by rw [← HK.out, h10]; rfl)
          rw [decide_eq_false (fun e => e h10)] at n10
          generalize (c.toNat : Int) = z at i0 n9 n10
          clear h9 h10 n13 HK
          go_wp2_with fail
          go_roundg (gk - 1)
          case measure => omega
          case rel => exact ⟨j + 1, acc, by omega, by first | rfl | simp, by omega, hI, hbw, HN⟩
        · rw [decide_eq_true h10] at n10
          by_cases h13 : c = 13
          · have HN : Hid (acc ++ (((bl s).take q).drop (j + 1)).filter kept = bare (bl s)) := hide (by rw [← HK.out, h13]; rfl)
            rw [decide_eq_false (fun e => e h13)] at n13
            generalize (c.toNat : Int) = z at i0 n9 n10 n13
            clear h9 h10 h13 HK
            go_wp2_with fail
            go_roundg (gk - 1)
            case measure => omega
            case rel => exact ⟨j + 1, acc, by omega, by first | rfl | simp, by omega, hI, hbw, HN⟩
          · rw [decide_eq_true h13] at n13
            have hk : kept c = true := by unfold kept; exact decide_eq_true ⟨h9, h10, h13⟩
            have HN : Hid ((acc ++ [c]) ++ (((bl s).take q).drop (j + 1)).filter kept = bare (bl s)) := hide (by
              have := HK.out
              rw [if_pos hk] at this
              rw [← this]
              simp)
            have HW := hide (Tryd.Builder_WriteByte_k w.heap.size w.heap.size _ (c.toNat : Int) wr hI (by rw [Lib.byteCells_length]; omega) hbw.size)
            have HCC : Hid (Lib.byteCells acc ++ [.int .u8 (c.toNat : Int)] = Lib.byteCells (acc ++ [c])) := hide (by rw [Lib.byteCells_append]; rfl)
            generalize (c.toNat : Int) = z at i0 n9 n10 n13 HW HCC
            clear h9 h10 h13 hk HK
            go_wp2_with fail
            refine HW.out.mono ?_
            rintro e W1 ⟨rfl, h1, b1, -⟩
            go_wp2_with fail
            go_roundg (gk - 1)
            case measure => omega
            case rel => exact ⟨j + 1, acc ++ [c], by omega, by first | rfl | simp, by simp; omega, Or.inr (by rw [← HCC.out]; exact h1), hbw.trans b1, HN⟩
    · have HR : Hid (acc = bare (bl s)) := hide (by
        have e : ((bl s).take q).drop j = [] := by
          rw [List.drop_eq_nil_iff, List.length_take]
          omega
        have := HA.out
        rw [e] at this
        simpa using this)
      clear HA
      go_wp2_with fail
      refine (Tryd.Builder_String_any_k w.heap.size w.heap.size acc _ hI hbw.size).mono ?_
      rintro e W1 ⟨rfl, _, b1, _⟩
      go_wp2_with fail
      go_ret
      rw [← HR.out]
      exact ⟨rfl, hbw.trans b1⟩
end Go.Proofs.YtbcadeikdmlpoaaDoor.Ul

namespace Go.Proofs.YtbcadeikdmlpoaaDoor.Ul
open Go.RowKit
open Utf1

def letA (n : Nat) : Bool := decide ((97 ≤ n ∧ n ≤ 122) ∨ (65 ≤ n ∧ n ≤ 90))
def goB (n : Nat) : Bool := decide ((48 ≤ n ∧ n ≤ 57) ∨ n = 43 ∨ n = 45 ∨ n = 46)

set_option maxHeartbeats 4000000 in
theorem letter_any (n : Nat) (hn : n < 256) (w : World) :
    Calls Tryd.prog 69 #[.int .u8 (n : Int)] w fun e w' => e = .returned (.bool (letA n)) ∧ w' = w := by
  have HL : Hid (∀ b, decide ((97 ≤ n ∧ n ≤ 122) ∨ (65 ≤ n ∧ n ≤ 90)) = b → letA n = b) := hide (fun b h => h)
  rcases (show n < 65 ∨ (65 ≤ n ∧ n ≤ 90) ∨ (90 < n ∧ n < 97) ∨ (97 ≤ n ∧ n ≤ 122) ∨ 122 < n from by omega) with h | h | h | h | h
  · have HN := hide (HL.out false (decide_eq_false (by omega)))
    have d97 : decide ((97 : Int) ≤ (n : Int)) = false := decide_eq_false (by omega)
    have d65 : decide ((65 : Int) ≤ (n : Int)) = false := decide_eq_false (by omega)
    clear HL h
    go_enter Tryd.func69, Tryd.ntmps69
    go_wp2_with fail
    go_ret
    rw [HN.out]
    exact ⟨rfl, rfl⟩
  · have HN := hide (HL.out true (decide_eq_true (by omega)))
    have d97 : decide ((97 : Int) ≤ (n : Int)) = false := decide_eq_false (by omega)
    have d65 : decide ((65 : Int) ≤ (n : Int)) = true := decide_eq_true (by omega)
    have d90 : decide ((n : Int) ≤ 90) = true := decide_eq_true (by omega)
    clear HL h
    go_enter Tryd.func69, Tryd.ntmps69
    go_wp2_with fail
    go_ret
    rw [HN.out]
    exact ⟨rfl, rfl⟩
  · have HN := hide (HL.out false (decide_eq_false (by omega)))
    have d97 : decide ((97 : Int) ≤ (n : Int)) = false := decide_eq_false (by omega)
    have d65 : decide ((65 : Int) ≤ (n : Int)) = true := decide_eq_true (by omega)
    have d90 : decide ((n : Int) ≤ 90) = false := decide_eq_false (by omega)
    clear HL h
    go_enter Tryd.func69, Tryd.ntmps69
    go_wp2_with fail
    go_ret
    rw [HN.out]
    exact ⟨rfl, rfl⟩
  · have HN := hide (HL.out true (decide_eq_true (by omega)))
    have d97 : decide ((97 : Int) ≤ (n : Int)) = true := decide_eq_true (by omega)
    have d122 : decide ((n : Int) ≤ 122) = true := decide_eq_true (by omega)
    clear HL h
    go_enter Tryd.func69, Tryd.ntmps69
    go_wp2_with fail
    go_ret
    rw [HN.out]
    exact ⟨rfl, rfl⟩
  · have HN := hide (HL.out false (decide_eq_false (by omega)))
    have d97 : decide ((97 : Int) ≤ (n : Int)) = true := decide_eq_true (by omega)
    have d122 : decide ((n : Int) ≤ 122) = false := decide_eq_false (by omega)
    have d65 : decide ((65 : Int) ≤ (n : Int)) = true := decide_eq_true (by omega)
    have d90 : decide ((n : Int) ≤ 90) = false := decide_eq_false (by omega)
    clear HL h
    go_enter Tryd.func69, Tryd.ntmps69
    go_wp2_with fail
    go_ret
    rw [HN.out]
    exact ⟨rfl, rfl⟩

set_option maxHeartbeats 4000000 in
theorem goesOn_any (n : Nat) (hn : n < 256) (w : World) :
    Calls Tryd.prog 70 #[.int .u8 (n : Int)] w fun e w' => e = .returned (.bool (goB n)) ∧ w' = w := by
  have HL : Hid (∀ b, decide ((48 ≤ n ∧ n ≤ 57) ∨ n = 43 ∨ n = 45 ∨ n = 46) = b → goB n = b) := hide (fun b h => h)
  rcases (show (48 ≤ n ∧ n ≤ 57) ∨ n = 43 ∨ n = 45 ∨ n = 46 ∨ (n < 48 ∧ n ≠ 43 ∧ n ≠ 45 ∧ n ≠ 46) ∨ 57 < n from by omega) with h | h | h | h | h | h
  · have HN := hide (HL.out true (decide_eq_true (by omega)))
    have d48 : decide ((48 : Int) ≤ (n : Int)) = true := decide_eq_true (by omega)
    have d57 : decide ((n : Int) ≤ 57) = true := decide_eq_true (by omega)
    clear HL h
    go_enter Tryd.func70, Tryd.ntmps70
    go_wp2_with fail
    go_ret
    rw [HN.out]
    exact ⟨rfl, rfl⟩
  · have HN := hide (HL.out true (decide_eq_true (by omega)))
    have d48 : decide ((48 : Int) ≤ (n : Int)) = false := decide_eq_false (by omega)
    have q43 : ((n : Int) == 43) = true := beq_iff_eq.2 (by omega)
    clear HL h
    go_enter Tryd.func70, Tryd.ntmps70
    go_wp2_with fail
    go_ret
    rw [HN.out]
    exact ⟨rfl, rfl⟩
  · have HN := hide (HL.out true (decide_eq_true (by omega)))
    have d48 : decide ((48 : Int) ≤ (n : Int)) = false := decide_eq_false (by omega)
    have q43 : ((n : Int) == 43) = false := beq_eq_false_iff_ne.2 (by omega)
    have q45 : ((n : Int) == 45) = true := beq_iff_eq.2 (by omega)
    clear HL h
    go_enter Tryd.func70, Tryd.ntmps70
    go_wp2_with fail
    go_ret
    rw [HN.out]
    exact ⟨rfl, rfl⟩
  · have HN := hide (HL.out true (decide_eq_true (by omega)))
    have d48 : decide ((48 : Int) ≤ (n : Int)) = false := decide_eq_false (by omega)
    have q43 : ((n : Int) == 43) = false := beq_eq_false_iff_ne.2 (by omega)
    have q45 : ((n : Int) == 45) = false := beq_eq_false_iff_ne.2 (by omega)
    have q46 : ((n : Int) == 46) = true := beq_iff_eq.2 (by omega)
    clear HL h
    go_enter Tryd.func70, Tryd.ntmps70
    go_wp2_with fail
    go_ret
    rw [HN.out]
    exact ⟨rfl, rfl⟩
  · have HN := hide (HL.out false (decide_eq_false (by omega)))
    have d48 : decide ((48 : Int) ≤ (n : Int)) = false := decide_eq_false (by omega)
    have q43 : ((n : Int) == 43) = false := beq_eq_false_iff_ne.2 (by omega)
    have q45 : ((n : Int) == 45) = false := beq_eq_false_iff_ne.2 (by omega)
    have q46 : ((n : Int) == 46) = false := beq_eq_false_iff_ne.2 (by omega)
    clear HL h
    go_enter Tryd.func70, Tryd.ntmps70
    go_wp2_with fail
    go_ret
    rw [HN.out]
    exact ⟨rfl, rfl⟩
  · have HN := hide (HL.out false (decide_eq_false (by omega)))
    have d48 : decide ((48 : Int) ≤ (n : Int)) = true := decide_eq_true (by omega)
    have d57 : decide ((n : Int) ≤ 57) = false := decide_eq_false (by omega)
    have q43 : ((n : Int) == 43) = false := beq_eq_false_iff_ne.2 (by omega)
    have q45 : ((n : Int) == 45) = false := beq_eq_false_iff_ne.2 (by omega)
    have q46 : ((n : Int) == 46) = false := beq_eq_false_iff_ne.2 (by omega)
    clear HL h
    go_enter Tryd.func70, Tryd.ntmps70
    go_wp2_with fail
    go_ret
    rw [HN.out]
    exact ⟨rfl, rfl⟩

theorem lower_get {b : List UInt8} {p : Nat} {c : UInt8} (h : b[p]? = some c) : (lower b)[p]? = some (low8 c) := by
  unfold lower
  rw [List.getElem?_map, h]
  rfl
theorem lower_take (b : List UInt8) (p : Nat) : lower (b.take p) = (lower b).take p := by
  unfold lower
  rw [List.map_take]
theorem lower_length (b : List UInt8) : (lower b).length = b.length := by
  unfold lower
  rw [List.length_map]
theorem low8_small {c : UInt8} (h : ¬ (65 ≤ c.toNat ∧ c.toNat ≤ 90)) : low8 c = c := by
  unfold low8
  rw [if_neg h]
theorem low8_let {c : UInt8} (h : letA c.toNat = true) : 97 ≤ (low8 c).toNat ∧ (low8 c).toNat ≤ 122 := by
  have h := of_decide_eq_true h
  rw [low8_toNat]
  unfold lowN
  split <;> omega
/-- One byte of a place, by what it is. -/
theorem sch_letter {b : List UInt8} {p : Nat} {c : UInt8} (h : b[p]? = some c) (hl : letA c.toNat = true) : schP (lower b) p = schP (lower b) (p + 1) := by
  have hr := low8_let hl
  refine schP_go (lower_get h) (ne_of_toNat ?_) (.inl (letB_yes hr.1 hr.2))
  intro e
  have e : (low8 c).toNat = 58 := e
  omega
theorem sch_goes {b : List UInt8} {p : Nat} {c : UInt8} (h : b[p]? = some c) (h0 : p ≠ 0) (hg : goB c.toNat = true) : schP (lower b) p = schP (lower b) (p + 1) := by
  have hg := of_decide_eq_true hg
  have hs : low8 c = c := low8_small (by omega)
  have hb := lower_get h
  rw [hs] at hb
  refine schP_go hb (ne_of_toNat ?_) (.inr ⟨h0, schB_yes (by omega)⟩)
  intro e
  have e : c.toNat = 58 := e
  omega
theorem sch_hit {b : List UInt8} {p : Nat} {c : UInt8} (h : b[p]? = some c) (h0 : p ≠ 0) (hc : c.toNat = 58) : schP (lower b) p = some (lower (b.take p)) := by
  have e : c = 58 := UInt8.toNat_inj.1 hc
  rw [e] at h
  rw [lower_take, schP_hit (lower_get h) h0]
theorem sch_miss {b : List UInt8} {p : Nat} {c : UInt8} (h : b[p]? = some c) (hl : letA c.toNat = false) (ho : p = 0 ∨ (c.toNat ≠ 58 ∧ goB c.toNat = false)) : schP (lower b) p = none := by
  have hl := of_decide_eq_false hl
  have hs : low8 c = c := low8_small (by omega)
  have hb := lower_get h
  rw [hs] at hb
  refine schP_miss hb (letB_no (by omega)) ?_
  rcases ho with ho | ⟨h1, h2⟩
  · exact .inl ho
  · have h2 := of_decide_eq_false h2
    exact .inr ⟨ne_of_toNat h1, schB_no (by omega) (by omega) (by omega)⟩

set_option maxHeartbeats 4000000 in
theorem scheme_any : SchemeC := by
  intro s w hs
  have c1 := fun w => bare_any s w hs
  have hbl := bare_len (bl s)
  rw [bl_len] at hbl
  have hbs : (⟨(bare (bl s)).toArray⟩ : ByteArray).size ≤ 100000 := by rw [size_mk]; omega
  have HS : Hid (scheme (bl s) = schA (lower (bl (⟨(bare (bl s)).toArray⟩ : ByteArray)))) := hide rfl
  generalize (⟨(bare (bl s)).toArray⟩ : ByteArray) = B at c1 hbs HS
  clear hbl
  go_enter Tryd.func43, Tryd.ntmps43
  go_wp2_with fail
  go_step3
  go_wp2_with fail
  refine (c1 _).mono ?_
  rintro e w2 ⟨rfl, HB⟩
  clear c1
  go_wp2_with fail
  go_step3
  go_wp2_with fail
  go_loopg [5] B.size (fun g v wx => wx = w2 ∧ ∃ p : Nat, p + g = B.size ∧ v = .int .i64 (p : Int) ∧ Hid (scheme (bl s) = schP (lower (bl B)) p))
  case atStart => exact ⟨rfl, 0, by omega, rfl, hide (by rw [HS.out, schP_zero])⟩
  case round =>
    obtain ⟨rfl, p, hp, rfl, HD⟩ := hrel
    by_cases hlt : p < B.size
    · obtain ⟨c, hc⟩ := getK B p hlt
      have i00 := fun w => idxK hc w
      have hcb := c.toNat_lt
      have HX : Hid (c.toNat = 58 → p ≠ 0 → schS (scheme (bl s)) = ⟨(lower (bl (B.extract 0 p))).toArray⟩ ∧ (scheme (bl s)).isSome = true) := hide (fun h h0 => by
        rw [HD.out, sch_hit hc h0 h, extract_bl]
        exact ⟨by simp [schS], rfl⟩)
      have HLE : Hid (letA c.toNat = true → scheme (bl s) = schP (lower (bl B)) (p + 1)) := hide (fun h => HD.out.trans (sch_letter hc h))
      have HGO : Hid (p ≠ 0 → goB c.toNat = true → scheme (bl s) = schP (lower (bl B)) (p + 1)) := hide (fun h0 h => HD.out.trans (sch_goes hc h0 h))
      have HMI : Hid (letA c.toNat = false → (p = 0 ∨ (c.toNat ≠ 58 ∧ goB c.toNat = false)) → scheme (bl s) = none) := hide (fun hl h => HD.out.trans (sch_miss hc hl h))
      obtain ⟨n, hn⟩ : ∃ n, n = c.toNat := ⟨_, rfl⟩
      rw [← hn] at i00 hcb HX HLE HGO HMI
      have i0 : ∀ w, (Instr.index 9 (.string B) (.int .i64 (p : Int))).run Tryd.prog w = .ok (.int .u8 (n : Int)) w := i00
      have cl := fun w => letter_any n hcb w
      have cg := fun w => goesOn_any n hcb w
      clear i00 hn hc HD
      cases hle : letA n with
      | true =>
        have HN := hide (HLE.out hle)
        rw [hle] at cl
        clear HX HLE HGO HMI cg hle
        go_wp2_with fail
        refine (cl _).mono ?_
        rintro e w3 ⟨rfl, rfl⟩
        go_wp2_with fail
        go_roundg (gk - 1)
        case measure => omega
        case rel => exact ⟨rfl, p + 1, by omega, by first | rfl | simp, HN⟩
      | false =>
        rw [hle] at cl
        by_cases hz : p = 0
        · have HN := hide (HMI.out hle (.inl hz))
          have dp : ¬ 0 < p := by omega
          clear HX HLE HGO HMI cg hle hz
          go_wp2_with fail
          refine (cl _).mono ?_
          rintro e w3 ⟨rfl, rfl⟩
          go_wp2_with fail
          rw [Exit.noGoto_ret]
          go_ret2
          rw [HN.out]
          exact ⟨rfl, HB⟩
        · have dp : 0 < p := by omega
          cases hgo : goB n with
          | true =>
            rw [hgo] at cg
            have HN := hide (HGO.out hz hgo)
            clear HX HLE HGO HMI hle hgo hz
            go_wp2_with fail
            refine (cl _).mono ?_
            rintro e w3 ⟨rfl, rfl⟩
            go_wp2_with fail
            refine (cg _).mono ?_
            rintro e w4 ⟨rfl, rfl⟩
            go_wp2_with fail
            go_roundg (gk - 1)
            case measure => omega
            case rel => exact ⟨rfl, p + 1, by omega, by first | rfl | simp, HN⟩
          | false =>
            rw [hgo] at cg
            by_cases h58 : n = 58
            · have HN := hide (HX.out h58 hz)
              have q58 : ((n : Int) == 58) = true := beq_iff_eq.2 (by omega)
              have cw := fun w => lower_any (B.extract 0 p) w
              clear HX HLE HGO HMI hle hgo hz h58
              go_wp2_with fail
              refine (cl _).mono ?_
              rintro e w3 ⟨rfl, rfl⟩
              go_wp2_with fail
              refine (cg _).mono ?_
              rintro e w4 ⟨rfl, rfl⟩
              go_wp2_with fail
              refine (cw _).mono ?_
              rintro e w5 ⟨rfl, hb5⟩
              go_wp2_with fail
              rw [Exit.noGoto_ret]
              go_ret2
              rw [HN.out.1, HN.out.2]
              exact ⟨rfl, bel2 HB hb5⟩
            · have HN := hide (HMI.out hle (.inr ⟨h58, hgo⟩))
              have q58 : ((n : Int) == 58) = false := beq_eq_false_iff_ne.2 (by omega)
              clear HX HLE HGO HMI hle hgo hz h58
              go_wp2_with fail
              refine (cl _).mono ?_
              rintro e w3 ⟨rfl, rfl⟩
              go_wp2_with fail
              refine (cg _).mono ?_
              rintro e w4 ⟨rfl, rfl⟩
              go_wp2_with fail
              rw [Exit.noGoto_ret]
              go_ret2
              rw [HN.out]
              exact ⟨rfl, HB⟩
    · have HN : Hid (scheme (bl s) = none) := hide (by rw [HD.out, schP_end (by rw [lower_length, bl_len]; omega)])
      clear HD
      go_wp2_with fail
      rw [Exit.noGoto_ret]
      go_ret2
      rw [HN.out]
      exact ⟨rfl, HB⟩
end Go.Proofs.YtbcadeikdmlpoaaDoor.Ul

namespace Go.Proofs.YtbcadeikdmlpoaaDoor.Ul
open Go.RowKit
open Utf1

set_option maxHeartbeats 4000000 in
theorem oneOf_any (X : ByteArray) (v : Value) (ss : List ByteArray) (hl : ss.length ≤ 100000) (w : World) (hv : StrArg w v ss) :
    Calls Tryd.prog 44 #[.string X, v] w fun e w' => e = .returned (.bool (decide (bl X ∈ ss.map bl))) ∧ w' = w := by
  obtain ⟨R, hR⟩ : ∃ R, R = decide (bl X ∈ ss.map bl) := ⟨_, rfl⟩
  rw [← hR]
  have HAL := hide hR
  clear hR
  obtain ⟨p, cap, rfl, -, hc⟩ := hv
  have HC := hide hc
  obtain ⟨N, hN⟩ : ∃ N, N = ss.length := ⟨_, rfl⟩
  rw [← hN] at hl ⊢
  have HN := hide hN
  clear hc hN
  go_enter Tryd.func44, Tryd.ntmps44
  go_wp2_with fail
  go_loopg [9] N (fun g v wx => wx = w ∧ ∃ i : Nat, i + g = N ∧ v = .int .i64 (i : Int) ∧ Hid (∀ j z, j < i → ss[j]? = some z → bl z ≠ bl X))
  case atStart => exact ⟨rfl, 0, by omega, rfl, hide (fun j z hj => by omega)⟩
  case round =>
    obtain ⟨rfl, i, hi, rfl, HU⟩ := hrel
    by_cases hlt : i < N
    · have hlt' : i < ss.length := by rw [← HN.out]; exact hlt
      have hge : ss[i]? = some ss[i] := List.getElem?_eq_getElem hlt'
      generalize ss[i] = y at hge
      obtain ⟨b, off, rfl, c0⟩ := HC.out i y hge
      have q0 := eq_two y X
      have HG := hide hge
      clear hge hlt'
      by_cases hy : bl y = bl X
      · rw [decide_eq_true hy] at q0
        have HR : Hid (R = true) := hide (by
          rw [HAL.out]
          apply decide_eq_true
          rw [← hy]
          exact List.mem_map_of_mem (List.mem_of_getElem? HG.out))
        clear hy HU HG
        go_wp2_with fail
        go_ret
        rw [HR.out]
        exact ⟨rfl, rfl⟩
      · rw [decide_eq_false hy] at q0
        have HU2 := hide (mem_upto HG.out HU.out hy)
        clear hy HU HG
        go_wp2_with fail
        go_roundg (gk - 1)
        case measure => omega
        case rel => exact ⟨rfl, i + 1, by omega, by first | rfl | simp, HU2⟩
    · have HR : Hid (R = false) := hide (by
        rw [HAL.out]
        apply decide_eq_false
        exact not_mem_of (N := i) (by rw [← HN.out]; omega) HU.out)
      clear HU
      go_wp2_with fail
      go_ret
      rw [HR.out]
      exact ⟨rfl, rfl⟩

theorem pre_two (B : ByteArray) : ([47, 47] : List UInt8).isPrefixOf (bl B) = decide ((bl B).take 2 = [47, 47]) := by
  by_cases h : (bl B).take 2 = [47, 47]
  · rw [decide_eq_true h, List.isPrefixOf_iff_prefix]
    exact ⟨(bl B).drop 2, by rw [← h, List.take_append_drop]⟩
  · rw [decide_eq_false h]
    apply Bool.eq_false_iff.2
    intro e
    obtain ⟨t, ht⟩ := List.isPrefixOf_iff_prefix.1 e
    exact h (by rw [← ht]; rfl)
theorem pre_c (s : ByteArray) (b : Bool) (h : decide ((bl s).take 2 = [47, 47]) = b) (w : World) : Calls Tryd.prog 64 #[.string s, .string ⟨#[47, 47]⟩] w fun e w' => e = .returned (.bool b) ∧ w' = w := by
  rw [← h, ← pre_two]
  exact Tryd.strings_HasPrefix s ⟨#[47, 47]⟩ w

set_option maxHeartbeats 4000000 in
theorem near_any (B : ByteArray) (hs : B.size ≤ 100000) (w : World) :
    Calls Tryd.prog 45 #[.string B] w fun e w' => e = .returned (.bool (plainOk (bl B))) ∧ w' = w := by
  obtain ⟨R, hR⟩ : ∃ R, R = plainOk (bl B) := ⟨_, rfl⟩
  rw [← hR]
  have HAL := hide hR
  clear hR
  by_cases h2 : (bl B).take 2 = [47, 47]
  · have cp := fun w => pre_c B true (decide_eq_true h2) w
    have HR : Hid (R = false) := hide (by
      rw [HAL.out]
      unfold plainOk
      rw [decide_eq_true h2]
      rfl)
    clear h2 HAL
    go_enter Tryd.func45, Tryd.ntmps45
    go_wp2_with fail
    refine (cp _).mono ?_
    rintro e w1 ⟨rfl, rfl⟩
    go_wp2_with fail
    go_ret
    rw [HR.out]
    exact ⟨rfl, rfl⟩
  · have cp := fun w => pre_c B false (decide_eq_false h2) w
    have HAL : Hid (R = (bl B).all (fun c => !badB c)) := hide (by
      rw [HAL.out]
      unfold plainOk
      rw [decide_eq_false h2]
      rfl)
    have HBAD : Hid (∀ (j : Nat) (c : UInt8), (bl B)[j]? = some c → badB c = true → R = false) := hide (fun j c h hc => by
      rw [HAL.out, List.all_eq_false]
      exact ⟨c, List.mem_of_getElem? h, by rw [hc]; decide⟩)
    clear h2
    go_enter Tryd.func45, Tryd.ntmps45
    go_wp2_with fail
    refine (cp _).mono ?_
    rintro e w1 ⟨rfl, rfl⟩
    clear cp
    go_wp2_with fail
    go_loopg [9] B.size (fun g v wx => wx = w1 ∧ ∃ i : Nat, i + g = B.size ∧ v = .int .i64 (i : Int) ∧ Hid (∀ j c, j < i → (bl B)[j]? = some c → badB c = false))
    case atStart => exact ⟨rfl, 0, by omega, rfl, hide (fun j z hj => by omega)⟩
    case round =>
      obtain ⟨rfl, i, hi, rfl, HU⟩ := hrel
      by_cases hlt : i < B.size
      · obtain ⟨c, hc⟩ := getK B i hlt
        have i0 := fun w => idxK hc w
        have k32 := lt32 c
        have k92 : ((c.toNat : Int) == 92) = decide (c = 92) := beqK c 92 (by decide)
        have k127 : ((c.toNat : Int) == 127) = decide (c = 127) := beqK c 127 (by decide)
        have HRB : Hid (badB c = true → R = false) := hide (HBAD.out i c hc)
        have HU2 : Hid (badB c = false → ∀ j d, j < i + 1 → (bl B)[j]? = some d → badB d = false) := hide (fun hb j d hj hd => by
          by_cases e : j = i
          · subst e
            rw [hc] at hd
            cases hd
            exact hb
          · exact HU.out j d (by omega) hd)
        clear hc HU
        by_cases h32 : c.toNat < 32
        · rw [decide_eq_true h32] at k32
          have HR : Hid (R = false) := hide (HRB.out (decide_eq_true (.inl h32)))
          generalize (c.toNat : Int) = z at i0 k32
          clear k92 k127 HRB HU2 h32
          go_wp2_with fail
          go_ret
          rw [HR.out]
          exact ⟨rfl, rfl⟩
        · rw [decide_eq_false h32] at k32
          by_cases h92 : c = 92
          · rw [decide_eq_true h92] at k92
            have HR : Hid (R = false) := hide (HRB.out (decide_eq_true (.inr (.inl h92))))
            generalize (c.toNat : Int) = z at i0 k32 k92
            clear k127 HRB HU2 h32 h92
            go_wp2_with fail
            go_ret
            rw [HR.out]
            exact ⟨rfl, rfl⟩
          · rw [decide_eq_false h92] at k92
            by_cases h127 : c = 127
            · rw [decide_eq_true h127] at k127
              have HR : Hid (R = false) := hide (HRB.out (decide_eq_true (.inr (.inr h127))))
              generalize (c.toNat : Int) = z at i0 k32 k92 k127
              clear HRB HU2 h32 h92 h127
              go_wp2_with fail
              go_ret
              rw [HR.out]
              exact ⟨rfl, rfl⟩
            · rw [decide_eq_false h127] at k127
              have HU3 := hide (HU2.out (decide_eq_false (by rintro (h | h | h); exact h32 h; exact h92 h; exact h127 h)))
              generalize (c.toNat : Int) = z at i0 k32 k92 k127
              clear HRB HU2 h32 h92 h127
              go_wp2_with fail
              go_roundg (gk - 1)
              case measure => omega
              case rel => exact ⟨rfl, i + 1, by omega, by first | rfl | simp, HU3⟩
      · have HR : Hid (R = true) := hide (by
          rw [HAL.out, List.all_eq_true]
          intro c hc
          obtain ⟨j, hj, e⟩ := List.mem_iff_getElem.1 hc
          have := HU.out j c (by rw [bl_len] at hj; omega) (by rw [List.getElem?_eq_getElem hj, e])
          rw [this]
          rfl)
        clear HU
        go_wp2_with fail
        go_ret
        rw [HR.out]
        exact ⟨rfl, rfl⟩

set_option maxHeartbeats 4000000 in
theorem allowed_any : AllowedC := by
  intro s v ss w hs hl hv
  have c1 := fun w => scheme_any s w hs
  have c2 := fun w => bare_any s w hs
  have HAL : Hid (allowed (bl s) (ss.map bl) = match scheme (bl s) with
    | some x => decide (x ∈ ss.map bl)
    | none => plainOk (bare (bl s))) := hide rfl
  obtain ⟨R, hR⟩ : ∃ R, R = allowed (bl s) (ss.map bl) := ⟨_, rfl⟩
  rw [← hR] at HAL ⊢
  clear hR
  have hbl := bare_len (bl s)
  rw [bl_len] at hbl
  cases hsc : scheme (bl s) with
  | some x =>
    rw [hsc] at c1 HAL
    have c1 : ∀ w, Calls Tryd.prog 43 #[.string s] w fun e w' => e = .returned (.tuple #[.string ⟨x.toArray⟩, .bool true]) ∧ Below w.heap.size w w' := c1
    have HAL : Hid (R = decide (bl ⟨x.toArray⟩ ∈ ss.map bl)) := HAL
    have H3 : Hid (∀ w, StrArg w v ss → Calls Tryd.prog 44 #[.string ⟨x.toArray⟩, v] w fun e w' => e = .returned (.bool R) ∧ w' = w) := hide (fun w h => by
      rw [HAL.out]
      exact oneOf_any ⟨x.toArray⟩ v ss hl w h)
    generalize (⟨x.toArray⟩ : ByteArray) = X at c1 H3
    have HV := hide hv
    obtain ⟨p, cap, rfl, -, -⟩ := hv
    clear hsc c2 hbl HAL
    generalize ss.length = N at *
    go_enter Tryd.func16, Tryd.ntmps16
    go_wp2_with fail
    refine (c1 _).mono ?_
    rintro e w1 ⟨rfl, hb1⟩
    go_wp2_with fail
    refine (H3.out _ (HV.out.below hb1)).mono ?_
    rintro e w2 ⟨rfl, rfl⟩
    go_wp2_with fail
    go_ret
    exact ⟨rfl, hb1⟩
  | none =>
    rw [hsc] at c1 HAL
    have c1 : ∀ w, Calls Tryd.prog 43 #[.string s] w fun e w' => e = .returned (.tuple #[.string ⟨#[]⟩, .bool false]) ∧ Below w.heap.size w w' := c1
    have c3 : ∀ w, Calls Tryd.prog 45 #[.string ⟨(bare (bl s)).toArray⟩] w fun e w' => e = .returned (.bool R) ∧ w' = w := fun w => by
      rw [HAL.out]
      exact near_any (⟨(bare (bl s)).toArray⟩ : ByteArray) (by rw [size_mk]; omega) w
    generalize (⟨(bare (bl s)).toArray⟩ : ByteArray) = B at c2 c3
    obtain ⟨pv, cap, rfl, -, -⟩ := hv
    clear hsc hbl HAL
    generalize ss.length = N at *
    go_enter Tryd.func16, Tryd.ntmps16
    go_wp2_with fail
    refine (c1 _).mono ?_
    rintro e w1 ⟨rfl, hb1⟩
    go_wp2_with fail
    refine (c2 _).mono ?_
    rintro e w2 ⟨rfl, hb2⟩
    go_wp2_with fail
    refine (c3 _).mono ?_
    rintro e w3 ⟨rfl, rfl⟩
    go_wp2_with fail
    go_ret
    exact ⟨rfl, bel2 hb1 hb2⟩
end Go.Proofs.YtbcadeikdmlpoaaDoor.Ul
