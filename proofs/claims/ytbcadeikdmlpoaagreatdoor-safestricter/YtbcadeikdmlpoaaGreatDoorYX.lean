/-
  Texts as lists of bytes, and what utf.Lower answers at every text.
-/
import Derived.Test.YtbcadeikdmlpoaaGreatDoorShelf
import Derived.Test.YtbcadeikdmlpoaaGreatDoorPW
import Derived.Test.YtbcadeikdmlpoaaGreatDoorMath
import Derived.WalkKit
import Derived.WalkSpells
import Derived.WalkLawsBesides
import Derived.BigCall
import Derived.Laws.IdiomStrings
import Derived.Lib.AppendStr
import Derived.Deep.LoopGhost
import Derived.WalkMore
import Derived.Test.YtbcadeikdmlpoaaGreatDoorSM
import Derived.Shelf.Strings.SlTrimAscii
import Derived.Shelf.RegionOpenPlain
import Derived.Deep.CutBlock
import Derived.KernelRfl
import Derived.Maps.Own
import Derived.Maps.OwnOps
import Derived.Maps.Views
import Derived.OneCell
import Derived.Laws.OwnMore
import Derived.Lib.SlicesS
import Derived.OwnWalk
import Derived.Lib.FrozenHead
import Derived.Lib.OthersKept
namespace Go.Proofs.YtbcadeikdmlpoaaGreatDoor.Sy
open Go.RowKit
open Utf1

/-- 'next' where a rune is at hand. -/
theorem next_some (P : Program) (w : World) (k : Nat) (s : ByteArray) (pos : Nat) (hk : w.heap[k]? = some (.stringIter s pos)) (h : pos < s.size) :
    ∃ r wd : Nat, 1 ≤ wd ∧ wd ≤ 4 ∧ pos + wd ≤ s.size ∧ r ≤ 1114111 ∧ dl ((bl s).drop pos) = (r, wd) ∧ (∀ ty, (Instr.next (.pointer (some ⟨k, 0, none⟩)) true ty).run P w =
      .ok (.tuple #[.bool true, .int .i64 pos, .int .i32 r]) (w.iterAt k s (pos + wd))) := by
  have hne : (bl s).drop pos ≠ [] := by
    intro e
    have := congrArg List.length e
    rw [List.length_drop, bl_len] at this
    simp at this
    omega
  have hw := dl_width _ hne
  have hsc := dl_scalar _ hne
  rw [List.length_drop, bl_len] at hw
  refine ⟨(dl ((bl s).drop pos)).1, (dl ((bl s).drop pos)).2, hw.1, hw.2.1, by omega, by unfold Scalar at hsc; omega, rfl, fun ty => ?_⟩
  rw [Lib.run_next_any_at w k s pos ty hk h, decode_dl s pos h]

theorem drop_ne (s : ByteArray) (pos : Nat) (h : pos < s.size) : (bl s).drop pos ≠ [] := by
  intro e
  have := congrArg List.length e
  rw [List.length_drop, bl_len] at this
  simp at this
  omega

theorem drop_all (s : ByteArray) (pos : Nat) (h : ¬ pos < s.size) : (bl s).drop pos = [] := by
  rw [List.drop_eq_nil_iff, bl_len]
  omega

theorem runes_drop (s : ByteArray) (pos r wd : Nat) (h : pos < s.size) (hd : dl ((bl s).drop pos) = (r, wd)) : runes ((bl s).drop pos) = r :: runes ((bl s).drop (pos + wd)) := by
  rw [runes_step _ (drop_ne s pos h), hd, List.drop_drop]

/-- A block holds the bytes l at its front, and none of these is frozen. -/
def RowIs (w : World) (B : Nat) (l : List UInt8) : Prop :=
  ∃ C fz, w.heap[B]? = some (.cells C 5 fz) ∧ l.length ≤ fz.1 ∧ ∀ j (hj : j < l.length), C[j]? = some (.int .u8 (l[j].toNat : Int))

theorem RowIs.cell {w : World} {B : Nat} {l : List UInt8} (h : RowIs w B l) (j : Nat) (hj : j < l.length) : w.cell? ⟨B, j, none⟩ = some (.int .u8 (l[j].toNat : Int)) := by
  obtain ⟨C, fz, hB, _, hc⟩ := h
  unfold World.cell?
  rw [hB]
  simpa using hc j hj

theorem RowIs.frozen {w : World} {B : Nat} {l : List UInt8} (h : RowIs w B l) (j : Nat) (hj : j < l.length) : w.frozen? ⟨B, j, none⟩ = false := by
  obtain ⟨C, fz, hB, hl, _⟩ := h
  unfold World.frozen?
  rw [hB]
  simp
  omega

theorem RowIs.set {w : World} {B : Nat} {l : List UInt8} (h : RowIs w B l) (j : Nat) (x : UInt8) : RowIs (w.setCell ⟨B, j, none⟩ (.int .u8 (x.toNat : Int))) B (l.set j x) := by
  obtain ⟨C, fz, hB, hl, hc⟩ := h
  refine ⟨C.setIfInBounds j (.int .u8 (x.toNat : Int)), fz, ?_, by simpa using hl, ?_⟩
  · simp [World.setCell, Array.getElem?_modify, hB]
  · intro i hi
    rw [List.length_set] at hi
    have h1 := hc i hi
    have hiC : i < C.size := (Array.getElem?_eq_some_iff.1 h1).1
    by_cases e : j = i
    · subst e
      simp [hiC]
    · simp [Array.getElem?_setIfInBounds_ne, e, h1]

theorem RowIs.iterAt {w : World} {B : Nat} {l : List UInt8} (h : RowIs w B l) (k : Nat) (hk : k ≠ B) (s : ByteArray) (pos : Nat) : RowIs (w.iterAt k s pos) B l := by
  obtain ⟨C, fz, hB, hl, hc⟩ := h
  exact ⟨C, fz, (Lib.iterAt_other w k B s pos (Ne.symm hk)).trans hB, hl, hc⟩

theorem RowIs.alloc {w : World} {B : Nat} {l : List UInt8} (h : RowIs w B l) (o : Obj) : RowIs (w.alloc o) B l := by
  obtain ⟨C, fz, hB, hl, hc⟩ := h
  have hlt : B < w.heap.size := (Array.getElem?_eq_some_iff.1 hB).1
  exact ⟨C, fz, (Lib.alloc_old w o B hlt).trans hB, hl, hc⟩

theorem RowIs.ofHeap {w w' : World} {B : Nat} {l : List UInt8} (h : RowIs w B l) (e : w'.heap[B]? = w.heap[B]?) : RowIs w' B l := by
  obtain ⟨C, fz, hB, hl, hc⟩ := h
  exact ⟨C, fz, e.trans hB, hl, hc⟩

theorem conv_back (w : World) (B cap n : Nat) (l : List UInt8) (hn : l.length = n) (h : RowIs w B l) :
    (convert 90 9 (.slice (some ⟨B, 0, none⟩) n cap)).run Tryz.prog w = .ok (.string ⟨l.toArray⟩) w := by
  subst hn
  exact run_convert_bytes_back w 90 9 5 ⟨B, 0, none⟩ cap l Tryz.underlying90 Tryz.underlying5 Tryz.underlying9 (fun j hj => by rw [show (⟨B, 0, none⟩ : Addr).add j = ⟨B, j, none⟩ from by cases j <;> simp [Addr.add]]; exact h.cell j hj)

/-- What '[]byte(s)' lays is such a row. -/
theorem row_new (w : World) (s : ByteArray) (cap : Nat) : RowIs (w.alloc (.cells (bytesRow s cap) 5 ((bytesRow s cap).size, (bytesRow s cap).size + 1))) w.heap.size (bl s) := by
  refine ⟨bytesRow s cap, ((bytesRow s cap).size, (bytesRow s cap).size + 1), ?_, ?_, fun j hj => ?_⟩
  · show (w.heap.push _)[w.heap.size]? = _
    simp
  · rw [bl_len]
    unfold bytesRow
    rw [Array.size_append, Array.size_map]
    exact Nat.le_add_right _ _
  · rw [bytesRow_at s cap j (by rw [← Array.length_toList]; exact hj)]
    rfl

/-- The bytes while they are made small, up to a place. -/
def mix (s : ByteArray) (pos : Nat) : List UInt8 := lower ((bl s).take pos) ++ (bl s).drop pos
theorem mix_len (s : ByteArray) (pos : Nat) : (mix s pos).length = s.size := by
  unfold mix lower
  rw [List.length_append, List.length_map, ← List.length_append, List.take_append_drop, bl_len]
theorem mix_zero (s : ByteArray) : mix s 0 = bl s := by simp [mix, lower]
theorem mix_end (s : ByteArray) (pos : Nat) (h : ¬ pos < s.size) : mix s pos = lower (bl s) := by
  unfold mix
  rw [drop_all s pos h, List.take_of_length_le (by rw [bl_len]; omega), List.append_nil]
theorem mix_keep (s : ByteArray) (pos wd : Nat) (h : lower (((bl s).drop pos).take wd) = ((bl s).drop pos).take wd) : mix s (pos + wd) = mix s pos := by
  unfold mix
  have e : (bl s).take (pos + wd) = (bl s).take pos ++ ((bl s).drop pos).take wd := List.take_add
  have h2 : lower ((bl s).take pos ++ ((bl s).drop pos).take wd) = lower ((bl s).take pos) ++ lower (((bl s).drop pos).take wd) := by simp [lower]
  rw [e, h2, h, List.append_assoc, ← List.drop_drop, List.take_append_drop]
theorem mix_set (s : ByteArray) (pos : Nat) (h : pos < (bl s).length) : mix s (pos + 1) = (mix s pos).set pos (low8 ((bl s)[pos])) := by
  unfold mix
  have e : (bl s).take (pos + 1) = (bl s).take pos ++ [(bl s)[pos]] := List.take_succ_eq_append_getElem h
  have h2 : lower ((bl s).take pos ++ [(bl s)[pos]]) = lower ((bl s).take pos) ++ [low8 ((bl s)[pos])] := by simp [lower]
  have h3 : (lower ((bl s).take pos)).length = pos := by unfold lower; rw [List.length_map, List.length_take]; omega
  rw [e, h2, List.set_append_right _ _ (by omega), h3, Nat.sub_self, List.drop_eq_getElem_cons h, List.set_cons_zero, List.append_assoc]
  rfl
theorem mix_at (s : ByteArray) (pos : Nat) (h : pos < (bl s).length) (h2 : pos < (mix s pos).length) : (mix s pos)[pos] = (bl s)[pos] := by
  have h3 : (lower ((bl s).take pos)).length = pos := by unfold lower; rw [List.length_map, List.length_take]; omega
  apply Option.some.inj
  rw [← List.getElem?_eq_getElem, ← List.getElem?_eq_getElem]
  unfold mix
  rw [List.getElem?_append_right (by omega), h3, Nat.sub_self, List.getElem?_drop, Nat.add_zero]

set_option maxHeartbeats 1000000 in
theorem lower_any (s : ByteArray) (w : World) :
    Calls Tryz.prog 102 #[.string s] w fun e w' => e = .returned (.string ⟨(lower (bl s)).toArray⟩) ∧ Below w.heap.size w w' := by
  have hcv := fun (w : World) (s : ByteArray) => run_bytes_of_string (P := Tryz.prog) w 9 90 5 s Tryz.underlying9 Tryz.underlying90 Tryz.underlying5
  go_enter Tryz.func102, Tryz.ntmps102
  go_wp2
  clear hcv
  go_loopw [] (fun wr => ∃ (pos : Nat), pos ≤ s.size ∧ wr.heap[w.heap.size + 1]? = some (.stringIter s pos) ∧ Below w.heap.size w wr ∧ RowIs wr w.heap.size (mix s pos)) (fun wr => s.size - wr.iterPos (w.heap.size + 1))
  case atStart =>
    refine ⟨0, Nat.zero_le _, ?_, (((Below.refl _ w).alloc (Nat.le_refl _) _).drew).alloc (by simp) _, ?_⟩
    · have := World.iter_heap ((w.alloc (Obj.cells (bytesRow s (grownCap w s.size 0 5)) 5 ((bytesRow s (grownCap w s.size 0 5)).size, (bytesRow s (grownCap w s.size 0 5)).size + 1))).drew) s 0
      simpa using this
    · rw [mix_zero]
      exact (row_new w s _).alloc _
  case round =>
    obtain ⟨pos, hp, hit, hbw, hrow⟩ := hrel
    by_cases hlt : pos < s.size
    · obtain ⟨r, wd, hw1, hw4, hwl, hr, hdl, hnx⟩ := next_some Tryz.prog wr (w.heap.size + 1) s pos hit hlt
      have hit2 := Lib.iterAt_heap wr (w.heap.size + 1) s pos (pos + wd) hit
      have hbw2 := Lib.below_iterAt hbw (k := w.heap.size + 1) (by omega) s (pos + wd)
      have hrow2 := hrow.iterAt (w.heap.size + 1) (by omega) s (pos + wd)
      have hlh := low_head _ (drop_ne s pos hlt)
      rw [hdl] at hlh
      clear hdl
      rcases hlh with ⟨hu1, hu2, hwd, hra⟩ | ⟨hu, hlo⟩
      · have hu1 : 65 ≤ r := hu1
        have hu2 : r ≤ 90 := hu2
        have hwd : wd = 1 := hwd
        have hl : pos < (bl s).length := by rw [bl_len]; exact hlt
        have hml : pos < (mix s pos).length := by rw [mix_len]; exact hlt
        have hby : (bl s)[pos].toNat = r := by
          rw [show r = atN ((bl s).drop pos) 0 from hra]
          unfold atN
          rw [List.getD_eq_getElem?_getD, List.getElem?_drop, Nat.add_zero, List.getElem?_eq_getElem hl]
          rfl
        have hce := hrow2.cell pos hml
        rw [mix_at s pos hl hml, hby] at hce
        have hfz := hrow2.frozen pos hml
        subst hwd
        have HBY := hide hby
        clear hby hra
        have hne : w.heap.size + 1 ≠ w.heap.size := by omega
        have HV : Hid ((r : Int) + 32 = ((low8 (bl s)[pos]).toNat : Int)) := by
          show (r : Int) + 32 = ((low8 (bl s)[pos]).toNat : Int)
          rw [low8_toNat, HBY.out]
          unfold lowN
          rw [if_pos ⟨hu1, hu2⟩]
          go_num
        go_wp2
        have hit3 : ∀ v, ((wr.iterAt (w.heap.size + 1) s (pos + 1)).setCell ⟨w.heap.size, pos, none⟩ v).heap[w.heap.size + 1]? = some (.stringIter s (pos + 1)) := fun v => (Below.heap_setCell _ _ _ _ hne).trans hit2
        refine ⟨⟨pos + 1, hwl, hit3 _, hbw2.setCell (Nat.le_refl _) _, ?_⟩, ?_⟩
        · rw [HV.out, mix_set s pos hl]
          exact hrow2.set pos _
        · simp only [World.iterPos, hit3, hit]
          omega
      · have hu : ¬ (65 ≤ r ∧ r ≤ 90) := hu
        rw [← mix_keep s pos wd hlo] at hrow2
        clear hlo
        by_cases h65 : 65 ≤ r
        · have h90 : ¬ r ≤ 90 := by omega
          go_wp2
          go_roundw
          case rel => exact ⟨pos + wd, hwl, hit2, hbw2, hrow2⟩
          case measure =>
            simp only [World.iterPos, hit2, hit]
            omega
        · go_wp2
          go_roundw
          case rel => exact ⟨pos + wd, hwl, hit2, hbw2, hrow2⟩
          case measure =>
            simp only [World.iterPos, hit2, hit]
            omega
    · have hnx : ∀ ty, (Instr.next (.pointer (some ⟨w.heap.size + 1, 0, none⟩)) true ty).run Tryz.prog wr = _ := fun ty => Lib.run_next_end_at wr (w.heap.size + 1) s pos ty hit hlt
      rw [mix_end s pos hlt] at hrow
      have hcb := conv_back wr w.heap.size (grownCap w s.size 0 5) s.size (lower (bl s)) (by unfold lower; rw [List.length_map]; exact bl_len s) hrow
      go_wp2
      go_ret
      exact ⟨rfl, hbw⟩

end Go.Proofs.YtbcadeikdmlpoaaGreatDoor.Sy

namespace Go.Proofs.YtbcadeikdmlpoaaGreatDoor.Sy
open Go.RowKit
open Utf1

theorem keep1 (s : ByteArray) (pos : Nat) (h : pos < (bl s).length) (hu : ¬ (65 ≤ (bl s)[pos].toNat ∧ (bl s)[pos].toNat ≤ 90)) : lower (((bl s).drop pos).take 1) = ((bl s).drop pos).take 1 := by
  rw [List.drop_eq_getElem_cons h]
  simp only [List.take_succ_cons, List.take_zero, lower, List.map_cons, List.map_nil, low8]
  rw [if_neg hu]
set_option maxHeartbeats 1000000 in
theorem rlower_any (s : ByteArray) (w : World) (hs : s.size ≤ 100000) :
    Calls Tryz.prog 105 #[.string s] w fun e w' => e = .returned (.string ⟨(lower (bl s)).toArray⟩) ∧ Below w.heap.size w w' := by
  have hcv := fun (w : World) (s : ByteArray) => run_bytes_of_string (P := Tryz.prog) w 9 90 5 s Tryz.underlying9 Tryz.underlying90 Tryz.underlying5
  go_enter Tryz.func105, Tryz.ntmps105
  go_wp2
  clear hcv
  go_loopw [4] (fun i wr => ∃ (pos : Nat), pos ≤ s.size ∧ i = .int .i64 pos ∧ Below w.heap.size w wr ∧ RowIs wr w.heap.size (mix s pos)) (fun i _ => s.size - (intOf i).toNat)
  case atStart =>
    refine ⟨0, Nat.zero_le _, rfl, ((Below.refl _ w).alloc (Nat.le_refl _) _).drew, ?_⟩
    rw [mix_zero]
    exact row_new w s _
  case round =>
    obtain ⟨pos, hp, rfl, hbw, hrow⟩ := hrel
    by_cases hlt : pos < s.size
    · have hl : pos < (bl s).length := by rw [bl_len]; exact hlt
      have hml : pos < (mix s pos).length := by rw [mix_len]; exact hlt
      have hce := hrow.cell pos hml
      rw [mix_at s pos hl hml] at hce
      have hfz := hrow.frozen pos hml
      have hms := mix_set s pos hl
      have hlow := low8_toNat (bl s)[pos]
      have hby := (bl s)[pos].toNat_lt
      have hset := hrow.set pos (low8 (bl s)[pos])
      rw [← hms, hlow] at hset
      generalize hcc : (bl s)[pos].toNat = c at *
      have HCC := hide hcc
      clear hcc
      have HS := hide hset
      clear hms hlow hset
      by_cases hu : 65 ≤ c ∧ c ≤ 90
      · obtain ⟨hu1, hu2⟩ := hu
        have HL : Hid (((lowN c : Nat) : Int) = (c : Int) + 32) := by
          show ((lowN c : Nat) : Int) = (c : Int) + 32
          unfold lowN
          rw [if_pos ⟨hu1, hu2⟩]
          rfl
        go_wp2
        go_roundw
        case rel =>
          refine ⟨pos + 1, by omega, by go_num, hbw.setCell (Nat.le_refl _) _, ?_⟩
          have := HS.out
          rw [HL.out] at this
          exact this
        case measure => simp [intOf]; omega
      · have hsame : RowIs wr w.heap.size (mix s (pos + 1)) := by
          have hk := mix_keep s pos 1 (keep1 s pos hl (by rw [HCC.out]; exact hu))
          rw [hk]
          exact hrow
        have HH := hide hsame
        clear hsame
        by_cases h65 : 65 ≤ c
        · have h90 : ¬ c ≤ 90 := by omega
          go_wp2
          go_roundw
          case rel => exact ⟨pos + 1, by omega, by go_num, hbw, HH.out⟩
          case measure => simp [intOf]; omega
        · go_wp2
          go_roundw
          case rel => exact ⟨pos + 1, by omega, by go_num, hbw, HH.out⟩
          case measure => simp [intOf]; omega
    · rw [mix_end s pos hlt] at hrow
      have hcb := conv_back wr w.heap.size (grownCap w s.size 0 5) s.size (lower (bl s)) (by unfold lower; rw [List.length_map]; exact bl_len s) hrow
      go_wp2
      go_ret
      exact ⟨rfl, hbw⟩

end Go.Proofs.YtbcadeikdmlpoaaGreatDoor.Sy

namespace Go.Proofs.YtbcadeikdmlpoaaGreatDoor.Sy
open Go.RowKit
open Utf1 Sty

def okn (n : Nat) : Bool := decide ((97 ≤ n ∧ n ≤ 122) ∨ (48 ≤ n ∧ n ≤ 57) ∨ n = 32 ∨ n = 35 ∨ n = 37 ∨ n = 46 ∨ n = 44 ∨ n = 45)
def bln (n : Nat) : Bool := decide (n = 9 ∨ n = 10 ∨ n = 12 ∨ n = 13 ∨ n = 32)
set_option maxHeartbeats 4000000 in
theorem may_any (n : Nat) (hn : n < 256) (w : World) :
    Calls Tryz.prog 98 #[.int .u8 (n : Int)] w fun e w' => e = .returned (.bool (okn n)) ∧ w' = w := by
  rcases (show n = 32 ∨ n = 35 ∨ n = 37 ∨ n = 46 ∨ n = 44 ∨ n = 45 ∨ ((0 ≤ n ∧ n ≤ 47) ∧ n ≠ 32 ∧ n ≠ 35 ∧ n ≠ 37 ∧ n ≠ 46 ∧ n ≠ 44 ∧ n ≠ 45) ∨ ((48 ≤ n ∧ n ≤ 57) ∧ n ≠ 32 ∧ n ≠ 35 ∧ n ≠ 37 ∧ n ≠ 46 ∧ n ≠ 44 ∧ n ≠ 45) ∨ ((58 ≤ n ∧ n ≤ 96) ∧ n ≠ 32 ∧ n ≠ 35 ∧ n ≠ 37 ∧ n ≠ 46 ∧ n ≠ 44 ∧ n ≠ 45) ∨ ((97 ≤ n ∧ n ≤ 122) ∧ n ≠ 32 ∧ n ≠ 35 ∧ n ≠ 37 ∧ n ≠ 46 ∧ n ≠ 44 ∧ n ≠ 45) ∨ ((123 ≤ n ∧ n ≤ 255) ∧ n ≠ 32 ∧ n ≠ 35 ∧ n ≠ 37 ∧ n ≠ 46 ∧ n ≠ 44 ∧ n ≠ 45) from by omega) with h | h | h | h | h | h | h | h | h | h | h
  · subst h
    have HN : Hid (okn 32 = true) := hide (by decide)
    have ck : ((32 : Nat) : Int) = 32 := rfl
    rw [ck]
    clear ck hn
    go_enter Tryz.func98, Tryz.ntmps98
    go_wp2_with fail
    go_ret
    rw [HN.out]
    exact ⟨rfl, rfl⟩
  · subst h
    have HN : Hid (okn 35 = true) := hide (by decide)
    have ck : ((35 : Nat) : Int) = 35 := rfl
    rw [ck]
    clear ck hn
    go_enter Tryz.func98, Tryz.ntmps98
    go_wp2_with fail
    go_ret
    rw [HN.out]
    exact ⟨rfl, rfl⟩
  · subst h
    have HN : Hid (okn 37 = true) := hide (by decide)
    have ck : ((37 : Nat) : Int) = 37 := rfl
    rw [ck]
    clear ck hn
    go_enter Tryz.func98, Tryz.ntmps98
    go_wp2_with fail
    go_ret
    rw [HN.out]
    exact ⟨rfl, rfl⟩
  · subst h
    have HN : Hid (okn 46 = true) := hide (by decide)
    have ck : ((46 : Nat) : Int) = 46 := rfl
    rw [ck]
    clear ck hn
    go_enter Tryz.func98, Tryz.ntmps98
    go_wp2_with fail
    go_ret
    rw [HN.out]
    exact ⟨rfl, rfl⟩
  · subst h
    have HN : Hid (okn 44 = true) := hide (by decide)
    have ck : ((44 : Nat) : Int) = 44 := rfl
    rw [ck]
    clear ck hn
    go_enter Tryz.func98, Tryz.ntmps98
    go_wp2_with fail
    go_ret
    rw [HN.out]
    exact ⟨rfl, rfl⟩
  · subst h
    have HN : Hid (okn 45 = true) := hide (by decide)
    have ck : ((45 : Nat) : Int) = 45 := rfl
    rw [ck]
    clear ck hn
    go_enter Tryz.func98, Tryz.ntmps98
    go_wp2_with fail
    go_ret
    rw [HN.out]
    exact ⟨rfl, rfl⟩
  · have HN : Hid (okn n = false) := hide (decide_eq_false (by omega))
    have e32 : ((n : Int) == 32) = false := beq_eq_false_iff_ne.2 (by omega)
    have e35 : ((n : Int) == 35) = false := beq_eq_false_iff_ne.2 (by omega)
    have e37 : ((n : Int) == 37) = false := beq_eq_false_iff_ne.2 (by omega)
    have e46 : ((n : Int) == 46) = false := beq_eq_false_iff_ne.2 (by omega)
    have e44 : ((n : Int) == 44) = false := beq_eq_false_iff_ne.2 (by omega)
    have e45 : ((n : Int) == 45) = false := beq_eq_false_iff_ne.2 (by omega)
    have g97 : decide ((97 : Int) ≤ (n : Int)) = false := decide_eq_false (by omega)
    have g48 : decide ((48 : Int) ≤ (n : Int)) = false := decide_eq_false (by omega)
    have l122 : decide ((n : Int) ≤ 122) = true := decide_eq_true (by omega)
    have l57 : decide ((n : Int) ≤ 57) = true := decide_eq_true (by omega)
    clear h hn
    go_enter Tryz.func98, Tryz.ntmps98
    go_wp2_with fail
    go_ret
    rw [HN.out]
    exact ⟨rfl, rfl⟩
  · have HN : Hid (okn n = true) := hide (decide_eq_true (by omega))
    have e32 : ((n : Int) == 32) = false := beq_eq_false_iff_ne.2 (by omega)
    have e35 : ((n : Int) == 35) = false := beq_eq_false_iff_ne.2 (by omega)
    have e37 : ((n : Int) == 37) = false := beq_eq_false_iff_ne.2 (by omega)
    have e46 : ((n : Int) == 46) = false := beq_eq_false_iff_ne.2 (by omega)
    have e44 : ((n : Int) == 44) = false := beq_eq_false_iff_ne.2 (by omega)
    have e45 : ((n : Int) == 45) = false := beq_eq_false_iff_ne.2 (by omega)
    have g97 : decide ((97 : Int) ≤ (n : Int)) = false := decide_eq_false (by omega)
    have g48 : decide ((48 : Int) ≤ (n : Int)) = true := decide_eq_true (by omega)
    have l122 : decide ((n : Int) ≤ 122) = true := decide_eq_true (by omega)
    have l57 : decide ((n : Int) ≤ 57) = true := decide_eq_true (by omega)
    clear h hn
    go_enter Tryz.func98, Tryz.ntmps98
    go_wp2_with fail
    go_ret
    rw [HN.out]
    exact ⟨rfl, rfl⟩
  · have HN : Hid (okn n = false) := hide (decide_eq_false (by omega))
    have e32 : ((n : Int) == 32) = false := beq_eq_false_iff_ne.2 (by omega)
    have e35 : ((n : Int) == 35) = false := beq_eq_false_iff_ne.2 (by omega)
    have e37 : ((n : Int) == 37) = false := beq_eq_false_iff_ne.2 (by omega)
    have e46 : ((n : Int) == 46) = false := beq_eq_false_iff_ne.2 (by omega)
    have e44 : ((n : Int) == 44) = false := beq_eq_false_iff_ne.2 (by omega)
    have e45 : ((n : Int) == 45) = false := beq_eq_false_iff_ne.2 (by omega)
    have g97 : decide ((97 : Int) ≤ (n : Int)) = false := decide_eq_false (by omega)
    have g48 : decide ((48 : Int) ≤ (n : Int)) = true := decide_eq_true (by omega)
    have l122 : decide ((n : Int) ≤ 122) = true := decide_eq_true (by omega)
    have l57 : decide ((n : Int) ≤ 57) = false := decide_eq_false (by omega)
    clear h hn
    go_enter Tryz.func98, Tryz.ntmps98
    go_wp2_with fail
    go_ret
    rw [HN.out]
    exact ⟨rfl, rfl⟩
  · have HN : Hid (okn n = true) := hide (decide_eq_true (by omega))
    have e32 : ((n : Int) == 32) = false := beq_eq_false_iff_ne.2 (by omega)
    have e35 : ((n : Int) == 35) = false := beq_eq_false_iff_ne.2 (by omega)
    have e37 : ((n : Int) == 37) = false := beq_eq_false_iff_ne.2 (by omega)
    have e46 : ((n : Int) == 46) = false := beq_eq_false_iff_ne.2 (by omega)
    have e44 : ((n : Int) == 44) = false := beq_eq_false_iff_ne.2 (by omega)
    have e45 : ((n : Int) == 45) = false := beq_eq_false_iff_ne.2 (by omega)
    have g97 : decide ((97 : Int) ≤ (n : Int)) = true := decide_eq_true (by omega)
    have g48 : decide ((48 : Int) ≤ (n : Int)) = true := decide_eq_true (by omega)
    have l122 : decide ((n : Int) ≤ 122) = true := decide_eq_true (by omega)
    have l57 : decide ((n : Int) ≤ 57) = false := decide_eq_false (by omega)
    clear h hn
    go_enter Tryz.func98, Tryz.ntmps98
    go_wp2_with fail
    go_ret
    rw [HN.out]
    exact ⟨rfl, rfl⟩
  · have HN : Hid (okn n = false) := hide (decide_eq_false (by omega))
    have e32 : ((n : Int) == 32) = false := beq_eq_false_iff_ne.2 (by omega)
    have e35 : ((n : Int) == 35) = false := beq_eq_false_iff_ne.2 (by omega)
    have e37 : ((n : Int) == 37) = false := beq_eq_false_iff_ne.2 (by omega)
    have e46 : ((n : Int) == 46) = false := beq_eq_false_iff_ne.2 (by omega)
    have e44 : ((n : Int) == 44) = false := beq_eq_false_iff_ne.2 (by omega)
    have e45 : ((n : Int) == 45) = false := beq_eq_false_iff_ne.2 (by omega)
    have g97 : decide ((97 : Int) ≤ (n : Int)) = true := decide_eq_true (by omega)
    have g48 : decide ((48 : Int) ≤ (n : Int)) = true := decide_eq_true (by omega)
    have l122 : decide ((n : Int) ≤ 122) = false := decide_eq_false (by omega)
    have l57 : decide ((n : Int) ≤ 57) = false := decide_eq_false (by omega)
    clear h hn
    go_enter Tryz.func98, Tryz.ntmps98
    go_wp2_with fail
    go_ret
    rw [HN.out]
    exact ⟨rfl, rfl⟩

set_option maxHeartbeats 4000000 in
theorem blank_any (n : Nat) (hn : n < 256) (w : World) :
    Calls Tryz.prog 104 #[.int .u8 (n : Int)] w fun e w' => e = .returned (.bool (bln n)) ∧ w' = w := by
  rcases (show n = 9 ∨ n = 10 ∨ n = 12 ∨ n = 13 ∨ n = 32 ∨ ((0 ≤ n ∧ n ≤ 255) ∧ n ≠ 9 ∧ n ≠ 10 ∧ n ≠ 12 ∧ n ≠ 13 ∧ n ≠ 32) from by omega) with h | h | h | h | h | h
  · subst h
    have HN : Hid (bln 9 = true) := hide (by decide)
    have ck : ((9 : Nat) : Int) = 9 := rfl
    rw [ck]
    clear ck hn
    go_enter Tryz.func104, Tryz.ntmps104
    go_wp2_with fail
    go_ret
    rw [HN.out]
    exact ⟨rfl, rfl⟩
  · subst h
    have HN : Hid (bln 10 = true) := hide (by decide)
    have ck : ((10 : Nat) : Int) = 10 := rfl
    rw [ck]
    clear ck hn
    go_enter Tryz.func104, Tryz.ntmps104
    go_wp2_with fail
    go_ret
    rw [HN.out]
    exact ⟨rfl, rfl⟩
  · subst h
    have HN : Hid (bln 12 = true) := hide (by decide)
    have ck : ((12 : Nat) : Int) = 12 := rfl
    rw [ck]
    clear ck hn
    go_enter Tryz.func104, Tryz.ntmps104
    go_wp2_with fail
    go_ret
    rw [HN.out]
    exact ⟨rfl, rfl⟩
  · subst h
    have HN : Hid (bln 13 = true) := hide (by decide)
    have ck : ((13 : Nat) : Int) = 13 := rfl
    rw [ck]
    clear ck hn
    go_enter Tryz.func104, Tryz.ntmps104
    go_wp2_with fail
    go_ret
    rw [HN.out]
    exact ⟨rfl, rfl⟩
  · subst h
    have HN : Hid (bln 32 = true) := hide (by decide)
    have ck : ((32 : Nat) : Int) = 32 := rfl
    rw [ck]
    clear ck hn
    go_enter Tryz.func104, Tryz.ntmps104
    go_wp2_with fail
    go_ret
    rw [HN.out]
    exact ⟨rfl, rfl⟩
  · have HN : Hid (bln n = false) := hide (decide_eq_false (by omega))
    have e9 : ((n : Int) == 9) = false := beq_eq_false_iff_ne.2 (by omega)
    have e10 : ((n : Int) == 10) = false := beq_eq_false_iff_ne.2 (by omega)
    have e12 : ((n : Int) == 12) = false := beq_eq_false_iff_ne.2 (by omega)
    have e13 : ((n : Int) == 13) = false := beq_eq_false_iff_ne.2 (by omega)
    have e32 : ((n : Int) == 32) = false := beq_eq_false_iff_ne.2 (by omega)
    clear h hn
    go_enter Tryz.func104, Tryz.ntmps104
    go_wp2_with fail
    go_ret
    rw [HN.out]
    exact ⟨rfl, rfl⟩

theorem okv_small {l : L} (h : l.length < 1) : okv l = false := by
  unfold okv
  rw [decide_eq_false (by omega)]
  rfl
theorem okv_big {l : L} (h : 100 < l.length) : okv l = false := by
  unfold okv
  rw [decide_eq_false (by omega)]
  rfl
theorem okv_head {l : L} (h : l[0]? = some 32) : okv l = false := by
  unfold okv
  rw [decide_eq_false (by
    rintro ⟨_, _, h1, _⟩
    exact h1 (by rw [List.head?_eq_getElem?]; exact h))]
  rfl
theorem okv_last {l : L} (h : l[l.length - 1]? = some 32) : okv l = false := by
  unfold okv
  rw [decide_eq_false (by
    rintro ⟨_, _, _, h1⟩
    exact h1 (by rw [List.getLast?_eq_getElem?]; exact h))]
  rfl
theorem okv_bad {l : L} {k : Nat} {c : UInt8} (h : l[k]? = some c) (hc : okc c = false) : okv l = false := by
  unfold okv
  rw [Bool.and_eq_false_iff]
  right
  rw [List.all_eq_false]
  exact ⟨c, List.mem_of_getElem? h, by rw [hc]; decide⟩
theorem okv_good {l : L} {a b : UInt8} (h1 : 1 ≤ l.length) (h2 : l.length ≤ 100) (ha : l[0]? = some a) (ha' : a ≠ 32) (hb : l[l.length - 1]? = some b) (hb' : b ≠ 32) (h : ∀ j c, j < l.length → l[j]? = some c → okc c = true) : okv l = true := by
  unfold okv
  rw [Bool.and_eq_true, decide_eq_true_eq, List.all_eq_true]
  refine ⟨⟨h1, h2, ?_, ?_⟩, ?_⟩
  · rw [List.head?_eq_getElem?, ha]
    intro e
    exact ha' (Option.some.inj e)
  · rw [List.getLast?_eq_getElem?, hb]
    intro e
    exact hb' (Option.some.inj e)
  · intro c hc
    obtain ⟨j, hj, e⟩ := List.mem_iff_getElem.1 hc
    exact h j c hj (by rw [List.getElem?_eq_getElem hj, e])
theorem upto_more {l : L} {p : Nat} {c : UInt8} (h : l[p]? = some c) (hc : okc c = true) (hu : ∀ j d, j < p → l[j]? = some d → okc d = true) : ∀ j d, j < p + 1 → l[j]? = some d → okc d = true := by
  intro j d hj hd
  by_cases e : j = p
  · subst e
    rw [h] at hd
    cases hd
    exact hc
  · exact hu j d (by omega) hd

set_option maxHeartbeats 8000000 in
theorem value_any (s : ByteArray) (hs : s.size ≤ 9223372036854775807) (w : World) :
    Calls Tryz.prog 76 #[.string s] w fun e w' => e = .returned (.bool (okv (bl s))) ∧ w' = w := by
  obtain ⟨R, hR⟩ : ∃ R, R = okv (bl s) := ⟨_, rfl⟩
  rw [← hR]
  have HAL := hide hR
  clear hR
  by_cases h1 : s.size < 1
  · have HN : Hid (R = false) := hide (by rw [HAL.out]; exact okv_small (by rw [bl_len]; exact h1))
    have d1 : decide ((s.size : Int) < 1) = true := decide_eq_true (by omega)
    clear HAL h1
    go_enter Tryz.func76, Tryz.ntmps76
    go_wp2_with fail
    go_ret
    rw [HN.out]
    exact ⟨rfl, rfl⟩
  by_cases h2 : 100 < s.size
  · have HN : Hid (R = false) := hide (by rw [HAL.out]; exact okv_big (by rw [bl_len]; exact h2))
    have d1 : decide ((s.size : Int) < 1) = false := decide_eq_false (by omega)
    have d2 : decide ((100 : Int) < (s.size : Int)) = true := decide_eq_true (by omega)
    clear HAL
    go_enter Tryz.func76, Tryz.ntmps76
    go_wp2_with fail
    go_ret
    rw [HN.out]
    exact ⟨rfl, rfl⟩
  obtain ⟨a, ha⟩ := getK s 0 (by omega)
  obtain ⟨b, hb⟩ := getK s (s.size - 1) (by omega)
  have i0 : ∀ w, (Instr.index 9 (.string s) (.int .i64 (0 : Int))).run Tryz.prog w = .ok (.int .u8 (a.toNat : Int)) w := fun w => idxK ha w
  have i1 : ∀ w, (Instr.index 9 (.string s) (.int .i64 ((s.size : Int) - 1))).run Tryz.prog w = .ok (.int .u8 (b.toNat : Int)) w := fun w => by
    have := idxK hb w
    rw [show ((s.size - 1 : Nat) : Int) = (s.size : Int) - 1 by omega] at this
    exact this
  have d1 : decide ((s.size : Int) < 1) = false := decide_eq_false (by omega)
  have d2 : decide ((100 : Int) < (s.size : Int)) = false := decide_eq_false (by omega)
  have k0 : ((a.toNat : Int) == 32) = decide (a = 32) := beqK a 32 (by decide)
  have k1 : ((b.toNat : Int) == 32) = decide (b = 32) := beqK b 32 (by decide)
  have HA := hide ha
  have HB := hide hb
  clear ha hb
  by_cases e0 : a = 32
  · rw [decide_eq_true e0] at k0
    have HN : Hid (R = false) := hide (by rw [HAL.out]; exact okv_head (by rw [HA.out, e0]))
    generalize (a.toNat : Int) = z at i0 k0
    clear HAL HA HB i1 k1 e0
    go_enter Tryz.func76, Tryz.ntmps76
    go_wp2_with fail
    go_ret
    rw [HN.out]
    exact ⟨rfl, rfl⟩
  rw [decide_eq_false e0] at k0
  by_cases e1 : b = 32
  · rw [decide_eq_true e1] at k1
    have HN : Hid (R = false) := hide (by rw [HAL.out]; exact okv_last (by rw [bl_len, HB.out, e1]))
    generalize (a.toNat : Int) = z at i0 k0
    generalize (b.toNat : Int) = y at i1 k1
    clear HAL HA HB e0 e1
    go_enter Tryz.func76, Tryz.ntmps76
    go_wp2_with fail
    go_ret
    rw [HN.out]
    exact ⟨rfl, rfl⟩
  rw [decide_eq_false e1] at k1
  have HGOOD : Hid ((∀ j c, j < s.size → (bl s)[j]? = some c → okc c = true) → R = true) := hide (fun h => by
    rw [HAL.out]
    exact okv_good (by rw [bl_len]; omega) (by rw [bl_len]; omega) HA.out e0 (by rw [bl_len]; exact HB.out) e1 (by rw [bl_len]; exact h))
  have HBAD : Hid (∀ j c, (bl s)[j]? = some c → okc c = false → R = false) := hide (fun j c h hc => by
    rw [HAL.out]
    exact okv_bad h hc)
  generalize (a.toNat : Int) = z at i0 k0
  generalize (b.toNat : Int) = y at i1 k1
  clear HAL HA HB e0 e1
  go_enter Tryz.func76, Tryz.ntmps76
  go_wp2_with fail
  clear i0 i1 k0 k1 d1 d2
  go_loopg [27] s.size (fun g v wx => wx = w ∧ ∃ p : Nat, p + g = s.size ∧ v = .int .i64 (p : Int) ∧ Hid (∀ j c, j < p → (bl s)[j]? = some c → okc c = true))
  case atStart => exact ⟨rfl, 0, by omega, rfl, hide (fun j z hj => by omega)⟩
  case round =>
    obtain ⟨rfl, p, hp, rfl, HU⟩ := hrel
    by_cases hlt : p < s.size
    · obtain ⟨c, hc⟩ := getK s p hlt
      have ip := fun w => idxK hc w
      have HOK : Hid (okc c = true → ∀ j d, j < p + 1 → (bl s)[j]? = some d → okc d = true) := hide (fun h => upto_more hc h HU.out)
      have HNO : Hid (okc c = false → R = false) := hide (HBAD.out p c hc)
      clear HBAD HU HGOOD hc
      have cm := fun w => may_any c.toNat c.toNat_lt w
      have HE : Hid (okc c = okn c.toNat) := hide rfl
      generalize (c.toNat : Int) = zc at ip cm
      cases hk : okn c.toNat with
      | true =>
        rw [hk] at cm
        have HU := hide (HOK.out (by rw [HE.out]; exact hk))
        clear HOK HNO HE hk
        go_wp2_with fail
        refine (cm _).mono ?_
        rintro e w1 ⟨rfl, rfl⟩
        go_wp2_with fail
        go_roundg (gk - 1)
        case measure => omega
        case rel => exact ⟨rfl, p + 1, by omega, by first | rfl | simp, HU⟩
      | false =>
        rw [hk] at cm
        have HN := hide (HNO.out (by rw [HE.out]; exact hk))
        clear HOK HNO HE hk
        go_wp2_with fail
        refine (cm _).mono ?_
        rintro e w1 ⟨rfl, rfl⟩
        go_wp2_with fail
        go_ret
        rw [HN.out]
        exact ⟨rfl, rfl⟩
    · have HN : Hid (R = true) := hide (HGOOD.out fun j c hj => HU.out j c (by omega))
      clear HU HGOOD HBAD
      go_wp2_with fail
      go_ret
      rw [HN.out]
      exact ⟨rfl, rfl⟩

set_option maxHeartbeats 8000000 in
theorem rvalue_any (s : ByteArray) (hs : s.size ≤ 9223372036854775807) (w : World) :
    Calls Tryz.prog 90 #[.string s] w fun e w' => e = .returned (.bool (okv (bl s))) ∧ w' = w := by
  obtain ⟨R, hR⟩ : ∃ R, R = okv (bl s) := ⟨_, rfl⟩
  rw [← hR]
  have HAL := hide hR
  clear hR
  by_cases h1 : s.size < 1
  · have HN : Hid (R = false) := hide (by rw [HAL.out]; exact okv_small (by rw [bl_len]; exact h1))
    have d1 : decide ((s.size : Int) < 1) = true := decide_eq_true (by omega)
    clear HAL h1
    go_enter Tryz.func90, Tryz.ntmps90
    go_wp2_with fail
    go_ret
    rw [HN.out]
    exact ⟨rfl, rfl⟩
  by_cases h2 : 100 < s.size
  · have HN : Hid (R = false) := hide (by rw [HAL.out]; exact okv_big (by rw [bl_len]; exact h2))
    have d1 : decide ((s.size : Int) < 1) = false := decide_eq_false (by omega)
    have d2 : decide ((100 : Int) < (s.size : Int)) = true := decide_eq_true (by omega)
    clear HAL
    go_enter Tryz.func90, Tryz.ntmps90
    go_wp2_with fail
    go_ret
    rw [HN.out]
    exact ⟨rfl, rfl⟩
  obtain ⟨a, ha⟩ := getK s 0 (by omega)
  obtain ⟨b, hb⟩ := getK s (s.size - 1) (by omega)
  have i0 : ∀ w, (Instr.index 9 (.string s) (.int .i64 (0 : Int))).run Tryz.prog w = .ok (.int .u8 (a.toNat : Int)) w := fun w => idxK ha w
  have i1 : ∀ w, (Instr.index 9 (.string s) (.int .i64 ((s.size : Int) - 1))).run Tryz.prog w = .ok (.int .u8 (b.toNat : Int)) w := fun w => by
    have := idxK hb w
    rw [show ((s.size - 1 : Nat) : Int) = (s.size : Int) - 1 by omega] at this
    exact this
  have d1 : decide ((s.size : Int) < 1) = false := decide_eq_false (by omega)
  have d2 : decide ((100 : Int) < (s.size : Int)) = false := decide_eq_false (by omega)
  have k0 : ((a.toNat : Int) == 32) = decide (a = 32) := beqK a 32 (by decide)
  have k1 : ((b.toNat : Int) == 32) = decide (b = 32) := beqK b 32 (by decide)
  have HA := hide ha
  have HB := hide hb
  clear ha hb
  by_cases e0 : a = 32
  · rw [decide_eq_true e0] at k0
    have HN : Hid (R = false) := hide (by rw [HAL.out]; exact okv_head (by rw [HA.out, e0]))
    generalize (a.toNat : Int) = z at i0 k0
    clear HAL HA HB i1 k1 e0
    go_enter Tryz.func90, Tryz.ntmps90
    go_wp2_with fail
    go_ret
    rw [HN.out]
    exact ⟨rfl, rfl⟩
  rw [decide_eq_false e0] at k0
  by_cases e1 : b = 32
  · rw [decide_eq_true e1] at k1
    have HN : Hid (R = false) := hide (by rw [HAL.out]; exact okv_last (by rw [bl_len, HB.out, e1]))
    generalize (a.toNat : Int) = z at i0 k0
    generalize (b.toNat : Int) = y at i1 k1
    clear HAL HA HB e0 e1
    go_enter Tryz.func90, Tryz.ntmps90
    go_wp2_with fail
    go_ret
    rw [HN.out]
    exact ⟨rfl, rfl⟩
  rw [decide_eq_false e1] at k1
  have HGOOD : Hid ((∀ j c, j < s.size → (bl s)[j]? = some c → okc c = true) → R = true) := hide (fun h => by
    rw [HAL.out]
    exact okv_good (by rw [bl_len]; omega) (by rw [bl_len]; omega) HA.out e0 (by rw [bl_len]; exact HB.out) e1 (by rw [bl_len]; exact h))
  have HBAD : Hid (∀ j c, (bl s)[j]? = some c → okc c = false → R = false) := hide (fun j c h hc => by
    rw [HAL.out]
    exact okv_bad h hc)
  generalize (a.toNat : Int) = z at i0 k0
  generalize (b.toNat : Int) = y at i1 k1
  clear HAL HA HB e0 e1
  go_enter Tryz.func90, Tryz.ntmps90
  go_wp2_with fail
  clear i0 i1 k0 k1 d1 d2
  go_loopg [3] s.size (fun g v wx => wx = w ∧ ∃ p : Nat, p + g = s.size ∧ v = .int .i64 (p : Int) ∧ Hid (∀ j c, j < p → (bl s)[j]? = some c → okc c = true))
  case atStart => exact ⟨rfl, 0, by omega, rfl, hide (fun j z hj => by omega)⟩
  case round =>
    obtain ⟨rfl, p, hp, rfl, HU⟩ := hrel
    by_cases hlt : p < s.size
    · obtain ⟨c, hc⟩ := getK s p hlt
      have ip := fun w => idxK hc w
      have HOK : Hid (okc c = true → ∀ j d, j < p + 1 → (bl s)[j]? = some d → okc d = true) := hide (fun h => upto_more hc h HU.out)
      have HNO : Hid (okc c = false → R = false) := hide (HBAD.out p c hc)
      clear HBAD HU HGOOD hc
      have hb := c.toNat_lt
      have HE : Hid (okc c = okn c.toNat) := hide rfl
      obtain ⟨n, hn⟩ : ∃ n, n = c.toNat := ⟨_, rfl⟩
      rw [← hn] at hb ip HE
      have HOK2 : Hid (okn n = true → ∀ j d, j < p + 1 → (bl s)[j]? = some d → okc d = true) := hide (fun h => HOK.out (by rw [HE.out]; exact h))
      have HNO2 : Hid (okn n = false → R = false) := hide (fun h => HNO.out (by rw [HE.out]; exact h))
      clear HOK HNO HE hn
      rcases (show n = 32 ∨ n = 35 ∨ n = 37 ∨ n = 46 ∨ n = 44 ∨ n = 45 ∨ ((0 ≤ n ∧ n ≤ 47) ∧ n ≠ 32 ∧ n ≠ 35 ∧ n ≠ 37 ∧ n ≠ 46 ∧ n ≠ 44 ∧ n ≠ 45) ∨ ((48 ≤ n ∧ n ≤ 57) ∧ n ≠ 32 ∧ n ≠ 35 ∧ n ≠ 37 ∧ n ≠ 46 ∧ n ≠ 44 ∧ n ≠ 45) ∨ ((58 ≤ n ∧ n ≤ 96) ∧ n ≠ 32 ∧ n ≠ 35 ∧ n ≠ 37 ∧ n ≠ 46 ∧ n ≠ 44 ∧ n ≠ 45) ∨ ((97 ≤ n ∧ n ≤ 122) ∧ n ≠ 32 ∧ n ≠ 35 ∧ n ≠ 37 ∧ n ≠ 46 ∧ n ≠ 44 ∧ n ≠ 45) ∨ ((123 ≤ n ∧ n ≤ 255) ∧ n ≠ 32 ∧ n ≠ 35 ∧ n ≠ 37 ∧ n ≠ 46 ∧ n ≠ 44 ∧ n ≠ 45) from by omega) with h | h | h | h | h | h | h | h | h | h | h
      · subst h
        have HU := hide (HOK2.out (by decide))
        have ck : ((32 : Nat) : Int) = 32 := rfl
        rw [ck] at ip
        clear HOK2 HNO2 ck hb
        go_wp2_with fail
        go_roundg (gk - 1)
        case measure => omega
        case rel => exact ⟨rfl, p + 1, by omega, by first | rfl | simp, HU⟩
      · subst h
        have HU := hide (HOK2.out (by decide))
        have ck : ((35 : Nat) : Int) = 35 := rfl
        rw [ck] at ip
        clear HOK2 HNO2 ck hb
        go_wp2_with fail
        go_roundg (gk - 1)
        case measure => omega
        case rel => exact ⟨rfl, p + 1, by omega, by first | rfl | simp, HU⟩
      · subst h
        have HU := hide (HOK2.out (by decide))
        have ck : ((37 : Nat) : Int) = 37 := rfl
        rw [ck] at ip
        clear HOK2 HNO2 ck hb
        go_wp2_with fail
        go_roundg (gk - 1)
        case measure => omega
        case rel => exact ⟨rfl, p + 1, by omega, by first | rfl | simp, HU⟩
      · subst h
        have HU := hide (HOK2.out (by decide))
        have ck : ((46 : Nat) : Int) = 46 := rfl
        rw [ck] at ip
        clear HOK2 HNO2 ck hb
        go_wp2_with fail
        go_roundg (gk - 1)
        case measure => omega
        case rel => exact ⟨rfl, p + 1, by omega, by first | rfl | simp, HU⟩
      · subst h
        have HU := hide (HOK2.out (by decide))
        have ck : ((44 : Nat) : Int) = 44 := rfl
        rw [ck] at ip
        clear HOK2 HNO2 ck hb
        go_wp2_with fail
        go_roundg (gk - 1)
        case measure => omega
        case rel => exact ⟨rfl, p + 1, by omega, by first | rfl | simp, HU⟩
      · subst h
        have HU := hide (HOK2.out (by decide))
        have ck : ((45 : Nat) : Int) = 45 := rfl
        rw [ck] at ip
        clear HOK2 HNO2 ck hb
        go_wp2_with fail
        go_roundg (gk - 1)
        case measure => omega
        case rel => exact ⟨rfl, p + 1, by omega, by first | rfl | simp, HU⟩
      · have HN := hide (HNO2.out (decide_eq_false (by omega)))
        have e32 : ((n : Int) == 32) = false := beq_eq_false_iff_ne.2 (by omega)
        have e35 : ((n : Int) == 35) = false := beq_eq_false_iff_ne.2 (by omega)
        have e37 : ((n : Int) == 37) = false := beq_eq_false_iff_ne.2 (by omega)
        have e46 : ((n : Int) == 46) = false := beq_eq_false_iff_ne.2 (by omega)
        have e44 : ((n : Int) == 44) = false := beq_eq_false_iff_ne.2 (by omega)
        have e45 : ((n : Int) == 45) = false := beq_eq_false_iff_ne.2 (by omega)
        have g97 : decide ((97 : Int) ≤ (n : Int)) = false := decide_eq_false (by omega)
        have g48 : decide ((48 : Int) ≤ (n : Int)) = false := decide_eq_false (by omega)
        have l122 : decide ((n : Int) ≤ 122) = true := decide_eq_true (by omega)
        have l57 : decide ((n : Int) ≤ 57) = true := decide_eq_true (by omega)
        clear HOK2 HNO2 h hb
        go_wp2_with fail
        go_ret
        rw [HN.out]
        exact ⟨rfl, rfl⟩
      · have HU := hide (HOK2.out (decide_eq_true (by omega)))
        have e32 : ((n : Int) == 32) = false := beq_eq_false_iff_ne.2 (by omega)
        have e35 : ((n : Int) == 35) = false := beq_eq_false_iff_ne.2 (by omega)
        have e37 : ((n : Int) == 37) = false := beq_eq_false_iff_ne.2 (by omega)
        have e46 : ((n : Int) == 46) = false := beq_eq_false_iff_ne.2 (by omega)
        have e44 : ((n : Int) == 44) = false := beq_eq_false_iff_ne.2 (by omega)
        have e45 : ((n : Int) == 45) = false := beq_eq_false_iff_ne.2 (by omega)
        have g97 : decide ((97 : Int) ≤ (n : Int)) = false := decide_eq_false (by omega)
        have g48 : decide ((48 : Int) ≤ (n : Int)) = true := decide_eq_true (by omega)
        have l122 : decide ((n : Int) ≤ 122) = true := decide_eq_true (by omega)
        have l57 : decide ((n : Int) ≤ 57) = true := decide_eq_true (by omega)
        clear HOK2 HNO2 h hb
        go_wp2_with fail
        go_roundg (gk - 1)
        case measure => omega
        case rel => exact ⟨rfl, p + 1, by omega, by first | rfl | simp, HU⟩
      · have HN := hide (HNO2.out (decide_eq_false (by omega)))
        have e32 : ((n : Int) == 32) = false := beq_eq_false_iff_ne.2 (by omega)
        have e35 : ((n : Int) == 35) = false := beq_eq_false_iff_ne.2 (by omega)
        have e37 : ((n : Int) == 37) = false := beq_eq_false_iff_ne.2 (by omega)
        have e46 : ((n : Int) == 46) = false := beq_eq_false_iff_ne.2 (by omega)
        have e44 : ((n : Int) == 44) = false := beq_eq_false_iff_ne.2 (by omega)
        have e45 : ((n : Int) == 45) = false := beq_eq_false_iff_ne.2 (by omega)
        have g97 : decide ((97 : Int) ≤ (n : Int)) = false := decide_eq_false (by omega)
        have g48 : decide ((48 : Int) ≤ (n : Int)) = true := decide_eq_true (by omega)
        have l122 : decide ((n : Int) ≤ 122) = true := decide_eq_true (by omega)
        have l57 : decide ((n : Int) ≤ 57) = false := decide_eq_false (by omega)
        clear HOK2 HNO2 h hb
        go_wp2_with fail
        go_ret
        rw [HN.out]
        exact ⟨rfl, rfl⟩
      · have HU := hide (HOK2.out (decide_eq_true (by omega)))
        have e32 : ((n : Int) == 32) = false := beq_eq_false_iff_ne.2 (by omega)
        have e35 : ((n : Int) == 35) = false := beq_eq_false_iff_ne.2 (by omega)
        have e37 : ((n : Int) == 37) = false := beq_eq_false_iff_ne.2 (by omega)
        have e46 : ((n : Int) == 46) = false := beq_eq_false_iff_ne.2 (by omega)
        have e44 : ((n : Int) == 44) = false := beq_eq_false_iff_ne.2 (by omega)
        have e45 : ((n : Int) == 45) = false := beq_eq_false_iff_ne.2 (by omega)
        have g97 : decide ((97 : Int) ≤ (n : Int)) = true := decide_eq_true (by omega)
        have g48 : decide ((48 : Int) ≤ (n : Int)) = true := decide_eq_true (by omega)
        have l122 : decide ((n : Int) ≤ 122) = true := decide_eq_true (by omega)
        have l57 : decide ((n : Int) ≤ 57) = false := decide_eq_false (by omega)
        clear HOK2 HNO2 h hb
        go_wp2_with fail
        go_roundg (gk - 1)
        case measure => omega
        case rel => exact ⟨rfl, p + 1, by omega, by first | rfl | simp, HU⟩
      · have HN := hide (HNO2.out (decide_eq_false (by omega)))
        have e32 : ((n : Int) == 32) = false := beq_eq_false_iff_ne.2 (by omega)
        have e35 : ((n : Int) == 35) = false := beq_eq_false_iff_ne.2 (by omega)
        have e37 : ((n : Int) == 37) = false := beq_eq_false_iff_ne.2 (by omega)
        have e46 : ((n : Int) == 46) = false := beq_eq_false_iff_ne.2 (by omega)
        have e44 : ((n : Int) == 44) = false := beq_eq_false_iff_ne.2 (by omega)
        have e45 : ((n : Int) == 45) = false := beq_eq_false_iff_ne.2 (by omega)
        have g97 : decide ((97 : Int) ≤ (n : Int)) = true := decide_eq_true (by omega)
        have g48 : decide ((48 : Int) ≤ (n : Int)) = true := decide_eq_true (by omega)
        have l122 : decide ((n : Int) ≤ 122) = false := decide_eq_false (by omega)
        have l57 : decide ((n : Int) ≤ 57) = false := decide_eq_false (by omega)
        clear HOK2 HNO2 h hb
        go_wp2_with fail
        go_ret
        rw [HN.out]
        exact ⟨rfl, rfl⟩
    · have HN : Hid (R = true) := hide (HGOOD.out fun j c hj => HU.out j c (by omega))
      clear HU HGOOD HBAD
      go_wp2_with fail
      go_ret
      rw [HN.out]
      exact ⟨rfl, rfl⟩

end Go.Proofs.YtbcadeikdmlpoaaGreatDoor.Sy

namespace Go.Proofs.YtbcadeikdmlpoaaGreatDoor.Sy
open Go.RowKit
open Utf1 Sty

theorem trim_any (s : ByteArray) (hs : s.size ≤ 9223372036854775807) (w : World) :
    Calls Tryz.prog 108 #[.string s, .string ⟨#[9, 10, 12, 13, 32]⟩] w fun e w' => e = .returned (.string ⟨(Lib.trimS (bl s) cutset).toArray⟩) ∧ Below w.heap.size w w' :=
  Any.strings_Trim_laid Tryz.lays160 (by kernel_rfl) s ⟨#[9, 10, 12, 13, 32]⟩ w hs (by decide) (ascii_of_all (by decide))

theorem plain_any (s : ByteArray) (hs : s.size ≤ 9223372036854775807) (w : World) :
    Calls Tryz.prog 97 #[.string s] w fun e w' => e = .returned (.string ⟨(pl (bl s)).toArray⟩) ∧ Below w.heap.size w w' := by
  have c1 := fun w => trim_any s hs w
  have c2 := fun w => lower_any ⟨(Lib.trimS (bl s) cutset).toArray⟩ w
  have HE : Hid (pl (bl s) = lower (bl ⟨(Lib.trimS (bl s) cutset).toArray⟩)) := hide rfl
  rw [HE.out]
  generalize (⟨(lower (bl ⟨(Lib.trimS (bl s) cutset).toArray⟩)).toArray⟩ : ByteArray) = B at c2
  generalize (⟨(Lib.trimS (bl s) cutset).toArray⟩ : ByteArray) = A at c1 c2
  clear HE
  go_enter Tryz.func97, Tryz.ntmps97
  go_wp2_with fail
  refine (c1 _).mono ?_
  rintro e w1 ⟨rfl, hb1⟩
  go_wp2_with fail
  refine (c2 _).mono ?_
  rintro e w2 ⟨rfl, hb2⟩
  go_wp2_with fail
  go_ret
  exact ⟨rfl, hb1.trans (hb2.mono hb1.size)⟩

theorem ib_some : ∀ (a b : L) (c : UInt8), c ∉ a → Lib.indexByte (a ++ c :: b) c = (a.length : Int)
  | [], b, c, _ => by simp [Lib.indexByte]
  | x :: a, b, c, h => by
    have hx : (x == c) = false := beq_eq_false_iff_ne.2 (fun e => h (by simp [e]))
    have ih := ib_some a b c (fun e => h (by simp [e]))
    rw [List.cons_append, Lib.indexByte, hx, ih]
    have : ((a.length : Int) == -1) = false := beq_eq_false_iff_ne.2 (by omega)
    rw [this]
    simp
theorem ib_none : ∀ (a : L) (c : UInt8), c ∉ a → Lib.indexByte a c = -1
  | [], c, _ => rfl
  | x :: a, c, h => by
    have hx : (x == c) = false := beq_eq_false_iff_ne.2 (fun e => h (by simp [e]))
    have ih := ib_none a c (fun e => h (by simp [e]))
    rw [Lib.indexByte, hx, ih]
    rfl

set_option maxHeartbeats 2000000 in
theorem lcut_none (s : ByteArray) (c : UInt8) (h : c ∉ bl s) (w : World) :
    Calls Tryz.prog 46 #[.string s, .string ⟨#[c]⟩] w fun e w' => e = .returned (.tuple #[.string s, .string ⟨#[]⟩, .bool false]) ∧ w' = w := by
  have c1 := fun w => Tryz.stringslite_Index_one s c w
  rw [ib_none _ c h] at c1
  clear h
  go_enter Tryz.func46, Tryz.ntmps46
  go_wp2_with fail
  refine (c1 _).mono ?_
  rintro e w1 ⟨rfl, rfl⟩
  go_wp2_with fail
  go_ret3
  exact ⟨rfl, rfl⟩
set_option maxHeartbeats 2000000 in
theorem lcut_some (s : ByteArray) (c : UInt8) (A B : ByteArray) (h : bl s = bl A ++ c :: bl B) (hc : c ∉ bl A) (hs : s.size ≤ 100000) (w : World) :
    Calls Tryz.prog 46 #[.string s, .string ⟨#[c]⟩] w fun e w' => e = .returned (.tuple #[.string A, .string B, .bool true]) ∧ Below w.heap.size w w' := by
  have c1 := fun w => Tryz.stringslite_Index_one s c w
  rw [show s.data.toList = _ from h, ib_some _ _ c hc, bl_len] at c1
  have hsz : s.size = A.size + 1 + B.size := by
    have := congrArg List.length h
    rw [bl_len, List.length_append, List.length_cons, bl_len, bl_len] at this
    omega
  have HA : Hid (s.extract 0 A.size = A) := hide (by
    apply ba_ext
    rw [extract_bl, h]
    have : A.size = (bl A).length := (bl_len A).symm
    rw [this]
    simp)
  have HB : Hid (s.extract (A.size + 1) s.size = B) := hide (by
    apply ba_ext
    rw [extract_bl, h, List.drop_append, bl_len]
    rw [List.drop_eq_nil_of_le (by rw [bl_len]; omega)]
    rw [show A.size + 1 - A.size = 1 by omega]
    simp
    rw [List.take_of_length_le (by rw [bl_len]; omega)])
  have k0 : (0 : Int) ≤ (A.size : Int) := by omega
  have k1 : (A.size : Int) ≤ (s.size : Int) := by omega
  have k2 : (0 : Int) ≤ (A.size : Int) + 1 := by omega
  have k3 : (A.size : Int) + 1 ≤ (s.size : Int) := by omega
  have hAs : A.size ≤ 100000 := by omega
  have HS := hide hsz
  clear h hc hsz
  have hA := HA.out
  have hB := HB.out
  go_enter Tryz.func46, Tryz.ntmps46
  go_wp2_with fail
  refine (c1 _).mono ?_
  rintro e w1 ⟨rfl, rfl⟩
  go_wp2_with fail
  go_region
  go_wp2
  go_ret3
  exact ⟨rfl, (Below.refl _ _).drew⟩
set_option maxHeartbeats 2000000 in
theorem cut_none (s : ByteArray) (c : UInt8) (h : c ∉ bl s) (w : World) :
    Calls Tryz.prog 24 #[.string s, .string ⟨#[c]⟩] w fun e w' => e = .returned (.tuple #[.string s, .string ⟨#[]⟩, .bool false]) ∧ Below w.heap.size w w' := by
  have c1 := fun w => lcut_none s c h w
  clear h
  go_enter Tryz.func24, Tryz.ntmps24
  go_wp2_with fail
  refine (c1 _).mono ?_
  rintro e w1 ⟨rfl, rfl⟩
  go_wp2_with fail
  go_ret3
  exact ⟨rfl, Below.refl _ _⟩
set_option maxHeartbeats 2000000 in
theorem cut_some (s : ByteArray) (c : UInt8) (A B : ByteArray) (h : bl s = bl A ++ c :: bl B) (hc : c ∉ bl A) (hs : s.size ≤ 100000) (w : World) :
    Calls Tryz.prog 24 #[.string s, .string ⟨#[c]⟩] w fun e w' => e = .returned (.tuple #[.string A, .string B, .bool true]) ∧ Below w.heap.size w w' := by
  have c1 := fun w => lcut_some s c A B h hc hs w
  clear h hc
  go_enter Tryz.func24, Tryz.ntmps24
  go_wp2_with fail
  refine (c1 _).mono ?_
  rintro e w1 ⟨rfl, hb⟩
  go_wp2_with fail
  go_ret3
  exact ⟨rfl, hb⟩
theorem split_at : ∀ (l : L) (c : UInt8), c ∈ l → ∃ a b, l = a ++ c :: b ∧ c ∉ a
  | [], c, h => by simp at h
  | x :: l, c, h => by
    by_cases e : x = c
    · exact ⟨[], l, by simp [e], by simp⟩
    · rcases List.mem_cons.1 h with h | h
      · exact absurd h.symm e
      · obtain ⟨a, b, rfl, hn⟩ := split_at l c h
        exact ⟨x :: a, b, by simp, by simp [hn, Ne.symm e]⟩
theorem split_ba (s : ByteArray) (c : UInt8) (h : c ∈ bl s) : ∃ A B : ByteArray, bl s = bl A ++ c :: bl B ∧ c ∉ bl A := by
  obtain ⟨a, b, e, hn⟩ := split_at (bl s) c h
  exact ⟨⟨a.toArray⟩, ⟨b.toArray⟩, by simpa using e, by simpa using hn⟩
end Go.Proofs.YtbcadeikdmlpoaaGreatDoor.Sy

namespace Go.Proofs.YtbcadeikdmlpoaaGreatDoor.Sy
open Go.RowKit Go.WideMaps
open Utf1 Sty

theorem contains_any (X : ByteArray) (v : Value) (ss : List ByteArray) (hl : ss.length ≤ 100000) (w : World) (hv : StrArg w v ss) :
    Calls Tryz.prog 39 #[v, .string X] w fun e w' => e = .returned (.bool (decide (bl X ∈ ss.map bl))) ∧ w' = w := by
  obtain ⟨p, cap, rfl, -, hc⟩ := hv
  cases ss with
  | nil =>
    refine (Tryz.slices_Contains_string_empty p cap X w).mono ?_
    rintro e w' ⟨rfl, rfl⟩
    exact ⟨by simp, rfl⟩
  | cons y r =>
    obtain ⟨b, off, rfl, _⟩ := hc 0 y rfl
    have hcell : ∀ j, j < (y :: r).length → w.cell? ⟨b, off + j, none⟩ = some (.string ((y :: r).getD j ByteArray.empty)) := by
      intro j hj
      obtain ⟨b', off', e, h⟩ := hc j ((y :: r)[j]) (List.getElem?_eq_getElem hj)
      injection e with e
      injection e with e1 e2
      subst e1
      subst e2
      rw [h, List.getD_eq_getElem?_getD, List.getElem?_eq_getElem hj]
      rfl
    refine (Tryz.slices_Contains_string b off (y :: r).length cap (y :: r) X w (Nat.le_refl _) (by omega) hcell).mono ?_
    rintro e w' ⟨rfl, rfl⟩
    refine ⟨?_, rfl⟩
    congr 2
    rw [List.take_length]
    have h1 := Lib.containsS_iff (y :: r) X
    by_cases hm : X ∈ y :: r
    · rw [h1.2 hm, decide_eq_true (List.mem_map_of_mem hm)]
    · have : Lib.containsS (y :: r) X = false := by
        cases h : Lib.containsS (y :: r) X
        · rfl
        · exact absurd (h1.1 h) hm
      rw [this, decide_eq_false]
      intro hx
      obtain ⟨z, hz, e⟩ := List.mem_map.1 hx
      exact hm (by rw [← ba_ext e]; exact hz)

def rowV : List NV → List Value
  | [] => []
  | x :: r => .string ⟨x.1.toArray⟩ :: .string ⟨x.2.toArray⟩ :: rowV r
theorem rowV_app : ∀ a b : List NV, rowV (a ++ b) = rowV a ++ rowV b
  | [], b => rfl
  | x :: a, b => by rw [List.cons_append, rowV, rowV, rowV_app a b]; rfl
theorem rowV_len : ∀ a : List NV, (rowV a).length = a.length * 2
  | [] => rfl
  | x :: a => by
    rw [rowV, List.length_cons, List.length_cons, rowV_len a, List.length_cons]
    omega
theorem rowV_at : ∀ (a : List NV) (i : Nat) (x : NV), a[i]? = some x → (rowV a)[2 * i]? = some (.string ⟨x.1.toArray⟩) ∧ (rowV a)[2 * i + 1]? = some (.string ⟨x.2.toArray⟩)
  | [], i, x, h => by simp at h
  | y :: a, 0, x, h => by
    have : y = x := by simpa using h
    subst this
    exact ⟨rfl, rfl⟩
  | y :: a, i + 1, x, h => by
    have h' : a[i]? = some x := by simpa using h
    obtain ⟨h1, h2⟩ := rowV_at a i x h'
    rw [rowV]
    refine ⟨?_, ?_⟩
    · rw [show 2 * (i + 1) = 2 * i + 1 + 1 by omega, List.getElem?_cons_succ, List.getElem?_cons_succ]
      exact h1
    · rw [show 2 * (i + 1) + 1 = 2 * i + 1 + 1 + 1 by omega, List.getElem?_cons_succ, List.getElem?_cons_succ]
      exact h2

/-- The map tells the last place of each name that was met. -/
def DOk (D : DataW Unit) (st : List NV) : Prop := ∀ (i : Nat) (x : NV), st[i]? = some x → ∃ j : Nat, D.atKey (.string x.1) (.lit (.int .i64 0)) = .lit (.int .i64 (j : Int)) ∧ i ≤ j ∧ ∃ y, st[j]? = some y ∧ y.1 = x.1
theorem DOk.nil (D : DataW Unit) : DOk D [] := fun i x h => by simp at h
theorem DOk.put {D : DataW Unit} {st : List NV} (h : DOk D st) (hD : Maps.IsMap D) (x : NV) : DOk (D.put (.string x.1) (.lit (.int .i64 (st.length : Int)))) (st ++ [x]) := by
  have hx : (st ++ [x])[st.length]? = some x := by simp
  intro i y hy
  by_cases e : y.1 = x.1
  · refine ⟨st.length, ?_, ?_, x, hx, e.symm⟩
    · rw [e]
      exact Maps.atKey_put_same hD (by simp [WideAt.IsKeyLit]) _ _
    · have := (List.getElem?_eq_some_iff.1 hy).1
      simp at this
      omega
  · have hi : i < st.length := by
      have := (List.getElem?_eq_some_iff.1 hy).1
      simp at this
      rcases Nat.lt_or_ge i st.length with h1 | h1
      · exact h1
      · have : i = st.length := by omega
        subst this
        rw [hx] at hy
        cases hy
        exact absurd rfl e
    rw [List.getElem?_append_left hi] at hy
    obtain ⟨j, h1, h2, z, h3, h4⟩ := h i y hy
    refine ⟨j, ?_, h2, z, ?_, h4⟩
    · rw [Maps.atKey_put_other (fun e' => e (by injection e')) _ _]
      exact h1
    · rw [List.getElem?_append_left (List.getElem?_eq_some_iff.1 h3).1]
      exact h3

/-- The call's own memory. -/
structure Inv (Hb : Nat) (v : Value) (st : List NV) (w : World) : Prop where
  pb : w.heap[Hb]? = some (.cells #[v] 22 (0, 0))
  sb : ∃ u, w.heap[Hb + 1]? = some (.cells #[u] 83 (0, 0)) ∧ w.ownsRow (Hb + 4) 87 2 u st.length (rowV st)
  mb : w.heap[Hb + 3]? = some (.cells #[.map (some (Hb + 2))] 84 (0, 0))
  mp : ∃ D : DataW Unit, w.ownsMap Tryz.prog 9 (plainElem Tryz.prog 3) (Hb + 2) st.length D ∧ Maps.IsMap D ∧ DOk D st
theorem Inv.lt {Hb : Nat} {v : Value} {st : List NV} {w : World} (h : Inv Hb v st w) : Hb + 4 ≤ w.heap.size := by have := lt_of_block h.mb; omega
theorem Inv.keep {Hb : Nat} {v : Value} {st : List NV} {w w' : World} (h : Inv Hb v st w) (hb : Below w.heap.size w w') : Inv Hb v st w' := by
  obtain ⟨h1, ⟨u, h2, h3⟩, h4, D, h5, h6⟩ := h
  exact ⟨(hb.block _ (lt_of_block h1)).trans h1, ⟨u, (hb.block _ (lt_of_block h2)).trans h2, h3.kept (row := none) (below_grown hb) (Classical.em _)⟩, (hb.block _ (lt_of_block h4)).trans h4, D, h5.kept (below_grown hb) (by simp), h6⟩

theorem ownsMap_setCell_other {H : Type} {w : World} {P : Program} {k : TypeId} {R : Value → Option (DataW H × List MemPlace)} {b n : Nat} {D : DataW H} (h : w.ownsMap P k R b n D) {a : Addr} (ha : b ≠ a.block) (u : Value) : (w.setCell a u).ownsMap P k R b n D := by
  obtain ⟨es, clock, hb, r⟩ := h
  exact ⟨es, clock, by rw [Below.heap_setCell _ _ _ _ ha]; exact hb, r⟩
end Go.Proofs.YtbcadeikdmlpoaaGreatDoor.Sy

namespace Go.Proofs.YtbcadeikdmlpoaaGreatDoor.Sy
open Go.RowKit Go.WideMaps
open Utf1 Sty

theorem infoSet : (Tryz.prog.info? 87).map (fun i => (i.zero, i.size, i.bytes)) = some (some (.agg #[.string ⟨#[]⟩, .string ⟨#[]⟩]), 2, 32) := by kernel_rfl
theorem two_new (w : World) (a b : Value) (t : TypeId) : ∀ j u, [a, b][j]? = some u → (w.alloc (.cells #[a, b] t)).cell? ((⟨w.heap.size, 0, none⟩ : Addr).add j) = some u := by
  intro j u h
  rw [add_plain, Nat.zero_add]
  match j, h with
  | 0, h => simp at h; subst h; simp
  | 1, h => simp at h; subst h; simp
  | j + 2, h => simp at h

/-- A part that stays: what is laid into the map and appended. -/
theorem inv_push {Hb : Nat} {v u u' : Value} {st : List NV} {D : DataW Unit} {w w1 w2 : World} (x : NV) (tmp : Obj)
    (hpb : w.heap[Hb]? = some (.cells #[v] 22 (0, 0))) (hmb : w.heap[Hb + 3]? = some (.cells #[.map (some (Hb + 2))] 84 (0, 0)))
    (hsb : w.heap[Hb + 1]? = some (.cells #[u] 83 (0, 0))) (hown : w.ownsRow (Hb + 4) 87 2 u st.length (rowV st))
    (hD : Maps.IsMap D) (hok : DOk D st)
    (hmap1 : w1.ownsMap Tryz.prog 9 (plainElem Tryz.prog 3) (Hb + 2) (st.length + 1) (D.put (.string x.1) (.lit (.int .i64 (st.length : Int))))) (hg1 : w.grownBy w1 (some (Hb + 2)))
    (hown2 : w2.ownsRow (Hb + 4) 87 2 u' (st.length + 1) (rowV st ++ [.string ⟨x.1.toArray⟩, .string ⟨x.2.toArray⟩])) (hg2 : (w1.alloc tmp).grownBy w2 u.ownBlock) :
    (∃ g c, u' = .slice (some ⟨g, 0, none⟩) (st.length + 1) c) ∧ w2.cell? ⟨Hb + 1, 0, none⟩ = some u ∧ w2.frozen? ⟨Hb + 1, 0, none⟩ = false ∧ Inv Hb v (st ++ [x]) (w2.setCell ⟨Hb + 1, 0, none⟩ u') ∧ Below Hb w (w2.setCell ⟨Hb + 1, 0, none⟩ u') := by
  have hlt := lt_of_block hmb
  have hne : ∀ k, k < Hb + 4 → some k ≠ u.ownBlock := fun k hk e => by
    rcases hown.2 with ⟨rfl, _⟩ | ⟨g, cap, cur, rfl, hg, hh, _⟩
    · simp [Value.ownBlock] at e
    · simp only [Value.ownBlock, Option.some.injEq] at e
      omega
  have keep1 : ∀ k, k < w.heap.size → k ≠ Hb + 2 → w1.heap[k]? = w.heap[k]? := fun k hk h => hg1.block k hk (by intro e; injection e with e; exact h e)
  have hs1 := hg1.size
  have keep2 : ∀ k, k < Hb + 4 → k < w1.heap.size → w2.heap[k]? = w1.heap[k]? := fun k hk hk' =>
    (hg2.block k (by simp; omega) (hne k hk)).trans (Below.heap_alloc _ _ _ hk')
  have hpb2 : w2.heap[Hb]? = some (.cells #[v] 22 (0, 0)) := (keep2 Hb (by omega) (by omega)).trans ((keep1 Hb (by omega) (by omega)).trans hpb)
  have hsb2 : w2.heap[Hb + 1]? = some (.cells #[u] 83 (0, 0)) := (keep2 (Hb + 1) (by omega) (by omega)).trans ((keep1 (Hb + 1) (by omega) (by omega)).trans hsb)
  have hmb2 : w2.heap[Hb + 3]? = some (.cells #[.map (some (Hb + 2))] 84 (0, 0)) := (keep2 (Hb + 3) (by omega) (by omega)).trans ((keep1 (Hb + 3) (by omega) (by omega)).trans hmb)
  have hne' : u'.ownBlock ≠ some (Hb + 1) := fun e => by
    rcases hown2.2 with ⟨rfl, _⟩ | ⟨g, cap, cur, rfl, hg, hh, _⟩
    · simp [Value.ownBlock] at e
    · simp only [Value.ownBlock, Option.some.injEq] at e
      omega
  have hex : ∃ g c, u' = .slice (some ⟨g, 0, none⟩) (st.length + 1) c := by
    rcases hown2.2 with ⟨_, h0⟩ | ⟨g', cap', _, h, _⟩
    · omega
    · exact ⟨g', cap', h⟩
  refine ⟨hex, cell_of_one hsb2, free_of_one hsb2, ⟨?_, ⟨u', one_setCell hsb2, ?_⟩, ?_, ?_⟩, ?_⟩
  · exact (Below.heap_setCell _ _ _ _ (by show Hb ≠ Hb + 1; omega)).trans hpb2
  · have := ownsRow_setCell_other hown2 (a := ⟨Hb + 1, 0, none⟩) hne' u'
    rw [rowV_app, List.length_append]
    exact this
  · exact (Below.heap_setCell _ _ _ _ (by show Hb + 3 ≠ Hb + 1; omega)).trans hmb2
  · refine ⟨_, ?_, hD.put _ _, hok.put hD x⟩
    rw [List.length_append]
    exact ownsMap_setCell_other ((hmap1.alloc tmp).kept hg2 (hne (Hb + 2) (by omega))) (by show Hb + 2 ≠ Hb + 1; omega) _
  · have b1 : Below Hb w w1 := (Below.refl Hb w).grown hg1 (by omega) (fun j hj => by injection hj with hj; omega)
    exact ((b1.alloc (by omega) tmp).grown hg2 (by simp; omega) (fun k hk => by
      rcases Nat.lt_or_ge k (Hb + 4) with h | h
      · exact absurd hk.symm (hne k h)
      · omega)).setCell (by show Hb ≤ Hb + 1; omega) _

set_option maxRecDepth 100000 in
set_option maxHeartbeats 4000000 in
theorem tell_any (Hb : Nat) (v : Value) (ss : List ByteArray) (st : List NV) (N V : ByteArray) (w : World) (hi : Inv Hb v st w) (hv : StrArg w v ss) (hN : N.size ≤ 100000) (hV : V.size ≤ 100000) (hst : st.length ≤ 100000) (hl : ss.length ≤ 100000) :
    Calls Tryz.prog 75 #[.string N, .string V, .pointer (some ⟨Hb, 0, none⟩), .pointer (some ⟨Hb + 1, 0, none⟩), .pointer (some ⟨Hb + 3, 0, none⟩)] w fun e w' => e = .returned (.tuple #[]) ∧ Inv Hb v (st ++ [(bl N, bl V)].filter (keep (ss.map bl))) w' ∧ Below Hb w w' := by
  have c1 := fun w => value_any V (by omega) w
  have c2 : ∀ wx, wx = w → Calls Tryz.prog 39 #[v, .string N] wx fun e w' => e = .returned (.bool (decide (bl N ∈ ss.map bl))) ∧ w' = wx := fun wx hx => by subst hx; exact contains_any N v ss hl _ hv
  obtain ⟨R1, hR1⟩ : ∃ R, R = okv (bl V) := ⟨_, rfl⟩
  obtain ⟨R2, hR2⟩ : ∃ R, R = decide (bl N ∈ ss.map bl) := ⟨_, rfl⟩
  rw [← hR1] at c1
  rw [← hR2] at c2
  have HK : Hid (keep (ss.map bl) (bl N, bl V) = (R2 && R1)) := hide (by unfold keep; rw [hR1, hR2])
  clear hR1 hR2
  have HC2 := hide c2
  clear c2
  have hi0 := hi
  obtain ⟨hpb, ⟨u, hsb, hown⟩, hmb, D, hmap, hD, hok⟩ := hi
  have cP := cell_of_one hpb
  have cS := cell_of_one hsb
  have cM := cell_of_one hmb
  have HI := hide hi0
  clear hi0
  cases R1 with
  | false =>
    have HF : Hid (st ++ [(bl N, bl V)].filter (keep (ss.map bl)) = st) := hide (by rw [List.filter_cons, HK.out]; simp)
    clear HK HC2 hpb hsb hmb hmap hD hok hown
    rw [HF.out]
    go_enter Tryz.func75, Tryz.ntmps75
    go_wp2_with fail
    refine (c1 _).mono ?_
    rintro e w1 ⟨rfl, rfl⟩
    go_wp2_with fail
    go_end0
    exact ⟨rfl, HI.out, Below.refl _ _⟩
  | true =>
    cases R2 with
    | false =>
      have HF : Hid (st ++ [(bl N, bl V)].filter (keep (ss.map bl)) = st) := hide (by rw [List.filter_cons, HK.out]; simp)
      clear HK hpb hsb hmb hmap hD hok hown
      rw [HF.out]
      go_enter Tryz.func75, Tryz.ntmps75
      go_wp2_with fail
      refine (c1 _).mono ?_
      rintro e w1 ⟨rfl, rfl⟩
      go_wp2_with fail
      refine (HC2.out _ rfl).mono ?_
      rintro e w1 ⟨rfl, rfl⟩
      go_wp2_with fail
      go_end0
      exact ⟨rfl, HI.out, Below.refl _ _⟩
    | true =>
      have HF : Hid (st ++ [(bl N, bl V)].filter (keep (ss.map bl)) = st ++ [(bl N, bl V)]) := hide (by rw [List.filter_cons, HK.out]; simp)
      rw [HF.out]
      clear HF HK HI
      have hkey : keyOf Tryz.prog 9 (.string N) = some (.string (bl N)) := keyOf_string_mk Tryz.underlying9 (by unfold maxLen; omega)
      obtain ⟨i0, hi, hz0, hz1, hz2⟩ := info_parts infoSet
      obtain ⟨sp, sc, rfl⟩ : ∃ sp sc, u = .slice sp st.length sc := by
        rcases hown.2 with ⟨rfl, h0⟩ | ⟨g, cap, cur, rfl, _⟩
        · exact ⟨none, 0, by rw [h0]⟩
        · exact ⟨_, _, rfl⟩
      have HPB := hide hpb
      have HSB := hide hsb
      have HMB := hide hmb
      have HOW := hide hown
      have HD := hide hD
      have HOK := hide hok
      obtain ⟨n, hn⟩ : ∃ n, n = st.length := ⟨_, rfl⟩
      have HN := hide hn
      rw [← hn] at hst cS hmap
      have HMAP := hide hmap
      clear hpb hsb hmb hown hD hok hn hmap
      go_enter Tryz.func75, Tryz.ntmps75
      go_wp2_with fail
      refine (c1 _).mono ?_
      rintro e w1 ⟨rfl, rfl⟩
      go_wp2_with fail
      refine (HC2.out _ rfl).mono ?_
      rintro e w1 ⟨rfl, rfl⟩
      clear HC2 c1
      go_wp2_with (at_mapUpdate; refine wpList_mapUpdate_own _ rfl _ _ _ 84 rfl 9 3 (Maps.string_keyed Tryz.underlying9) Tryz.underlying84 _ (Hb + 2) n _ rfl HMAP.out (by unfold maxLen; omega) _ _ _ rfl rfl hkey _ [] (plainElem_int Tryz.underlying3 (WalkArith.wf_i64 (by omega))) ?_)
      intro w2 hmap1 hg1
      have HM1 := hide hmap1
      have HG1 := hide hg1
      have cS1 : w2.cell? ⟨Hb + 1, 0, none⟩ = some (.slice sp n sc) := by
        rw [HN.out]
        exact cell_of_one ((hg1.block (Hb + 1) (lt_of_block HSB.out) (fun e => by have := Option.some.inj e; omega)).trans HSB.out)
      clear hmap1 hg1 cS cM cP hkey HMAP
      have HOW1 : Hid ((w2.alloc (.cells #[.string N, .string V] 87)).ownsRow (Hb + 4) 87 2 (.slice sp n sc) n (rowV st)) := hide (by
        rw [HN.out]
        refine (HOW.out.kept HG1.out ?_).alloc _
        rcases HOW.out.2 with ⟨e, _⟩ | ⟨g, cap, cur, e, hg, _⟩
        · left; rw [e]; rfl
        · right; rw [e]; intro h; simp only [Value.ownBlock, Option.some.injEq] at h; omega)
      have HSZ : Hid (Hb + 4 ≤ (w2.alloc (.cells #[.string N, .string V] 87)).heap.size) := hide (by
        have h1 := lt_of_block HMB.out
        have h2 := HG1.out.size
        simp
        omega)
      go_wp2_with (at_builtin; refine wpList_append_own _ rfl _ _ 83 rfl (Hb + 4) 87 i0 _ 2 32 Tryz.underlying83 hi hz0 hz1 hz2 rfl (by decide) (.slice sp n sc) n (rowV st) rfl HOW1.out ⟨w2.heap.size, 0, none⟩ 1 1 [.string N, .string V] rfl rfl (two_new _ _ _ _) (by simp [Value.oneCell']) (by unfold maxLen; omega) (by omega) HSZ.out ?_)
      intro u' w3 hown3 hg3 _
      have HP := hide (inv_push (v := v) (bl N, bl V) _ HPB.out HMB.out HSB.out HOW.out HD.out HOK.out (by rw [← HN.out]; exact HM1.out) HG1.out (u' := u') (w2 := w3) (by rw [← HN.out]; exact hown3) (by rw [← HN.out]; exact hg3))
      clear hown3 hg3
      obtain ⟨⟨g, c, hu⟩, cS3, fS3, -⟩ := HP.out
      rw [← HN.out] at hu cS3
      subst hu
      go_wp2_with fail
      go_end0
      exact ⟨rfl, HP.out.2.2.2⟩
end Go.Proofs.YtbcadeikdmlpoaaGreatDoor.Sy

namespace Go.Proofs.YtbcadeikdmlpoaaGreatDoor.Sy
open Go.RowKit Go.WideMaps
open Utf1 Sty

def tellV (Hb : Nat) : Value := .func (.func 75) #[] #[.pointer (some ⟨Hb, 0, none⟩), .pointer (some ⟨Hb + 1, 0, none⟩), .pointer (some ⟨Hb + 3, 0, none⟩)]

theorem stay_semi (props : List L) (p r : L) (h : (59 : UInt8) ∉ p) : stay props (p ++ 59 :: r) = (pp p).toList.filter (keep props) ++ stay props r := by
  unfold stay prts
  rw [segs_semi p r h]
  cases hp : pp p with
  | none => rw [List.filterMap_cons_none hp]; simp
  | some x => rw [List.filterMap_cons_some hp, List.filter_cons]; simp [List.filter_cons]; split <;> simp
theorem stay_end (props : List L) (p : L) (h : (59 : UInt8) ∉ p) : stay props p = (pp p).toList.filter (keep props) := by
  unfold stay prts
  rw [segs_end p h]
  cases hp : pp p with
  | none => rw [List.filterMap_cons_none hp]; simp
  | some x => rw [List.filterMap_cons_some hp]; simp
theorem pp_none (p : L) (h : (58 : UInt8) ∉ p) : (pp p).toList = [] := by
  unfold pp
  rw [part_none p h]
  rfl
theorem pp_some (a b : L) (h : (58 : UInt8) ∉ a) : (pp (a ++ 58 :: b)).toList = [(pl a, pl b)] := by
  unfold pp
  rw [part_some a b h]
  rfl
theorem filter_len (f : NV → Bool) (x : NV) : ([x].filter f).length ≤ 1 := by
  rw [List.filter_cons]
  split <;> simp

/-- One part, told: what is asked of the call behind the two plain ones. -/
theorem part_told (Hb : Nat) (v : Value) (ss : List ByteArray) (st : List NV) (A B : ByteArray) (w0 w : World) (h0 : w0.heap.size = Hb) (hi : Inv Hb v st w) (hv : StrArg w0 v ss) (hb : Below Hb w0 w) (hA : A.size ≤ 100000) (hB : B.size ≤ 100000) (hst : st.length ≤ 100000) (hl : ss.length ≤ 100000) :
    Calls Tryz.prog 75 #[.string ⟨(pl (bl A)).toArray⟩, .string ⟨(pl (bl B)).toArray⟩, .pointer (some ⟨Hb, 0, none⟩), .pointer (some ⟨Hb + 1, 0, none⟩), .pointer (some ⟨Hb + 3, 0, none⟩)] w fun e w' => e = .returned (.tuple #[]) ∧ Inv Hb v (st ++ [(pl (bl A), pl (bl B))].filter (keep (ss.map bl))) w' ∧ Below Hb w w' := by
  have h1 := pl_len (bl A)
  have h2 := pl_len (bl B)
  rw [bl_len] at h1 h2
  exact tell_any Hb v ss st ⟨(pl (bl A)).toArray⟩ ⟨(pl (bl B)).toArray⟩ w hi (hv.below (by rw [h0]; exact hb)) (by rw [size_mk]; omega) (by rw [size_mk]; omega) hst hl

set_option maxRecDepth 100000 in
set_option maxHeartbeats 8000000 in
theorem each_any (Hb : Nat) (v : Value) (ss : List ByteArray) (s : ByteArray) (w0 w : World) (h0 : w0.heap.size = Hb) (hi : Inv Hb v [] w) (hv : StrArg w0 v ss) (hb : Below Hb w0 w) (hs : s.size ≤ 90000) (hl : ss.length ≤ 100000) :
    Calls Tryz.prog 74 #[.string s, tellV Hb] w fun e w' => e = .returned (.tuple #[]) ∧ Inv Hb v (stay (ss.map bl) (bl s)) w' ∧ Below Hb w w' := by
  unfold tellV
  have HV := hide hv
  have HB := hide hb
  have HI := hide hi
  clear hv hb hi
  go_enter Tryz.func74, Tryz.ntmps74
  go_wp2_with fail
  go_loopg [0, 4] (s.size + 1) (fun g v0 v4 wr => ∃ (S : ByteArray) (m : Bool) (st : List NV), v0 = .string S ∧ v4 = .bool m ∧ S.size ≤ s.size ∧ st.length + S.size ≤ s.size + 1 ∧ (m = true → S.size + 1 ≤ g ∧ st.length + S.size ≤ s.size) ∧ Hid (Inv Hb v st wr ∧ Below Hb w wr ∧ stay (ss.map bl) (bl s) = st ++ (if m = true then stay (ss.map bl) (bl S) else [])))
  case atStart => exact ⟨s, true, [], rfl, rfl, Nat.le_refl _, by simp, fun _ => ⟨Nat.le_refl _, by simp⟩, hide ⟨HI.out, Below.refl _ _, rfl⟩⟩
  case round =>
    obtain ⟨S, m, st, rfl, rfl, hS, hlen, hm, HR⟩ := hrel
    clear HI
    cases m with
    | false =>
      clear hm
      have HE : Hid (stay (ss.map bl) (bl s) = st) := hide (by have := HR.out.2.2; simpa using this)
      go_wp2_with fail
      go_end0
      rw [HE.out]
      exact ⟨rfl, HR.out.1, HR.out.2.1⟩
    | true =>
      obtain ⟨hg, hlen2⟩ := hm rfl
      clear hm
      have HST : Hid (stay (ss.map bl) (bl s) = st ++ stay (ss.map bl) (bl S)) := hide (by have := HR.out.2.2; simpa using this)
      by_cases hsemi : (59 : UInt8) ∈ bl S
      · obtain ⟨A, B, hAB, hnA⟩ := split_ba S 59 hsemi
        have hsz : S.size = A.size + 1 + B.size := by
          have := congrArg List.length hAB
          rw [bl_len, List.length_append, List.length_cons, bl_len, bl_len] at this
          omega
        have cc := fun w => cut_some S 59 A B hAB hnA (by omega) w
        have HST2 : Hid (stay (ss.map bl) (bl s) = st ++ ((pp (bl A)).toList.filter (keep (ss.map bl)) ++ stay (ss.map bl) (bl B))) := hide (by rw [HST.out, hAB, stay_semi _ _ _ hnA])
        have HSZ := hide hsz
        clear hAB hnA hsemi HST hsz
        by_cases hcol : (58 : UInt8) ∈ bl A
        · obtain ⟨N, V, hNV, hnN⟩ := split_ba A 58 hcol
          have hszA : A.size = N.size + 1 + V.size := by
            have := congrArg List.length hNV
            rw [bl_len, List.length_append, List.length_cons, bl_len, bl_len] at this
            omega
          have cd := fun w => cut_some A 58 N V hNV hnN (by have := HSZ.out; omega) w
          have cn := fun w => plain_any N (by have := HSZ.out; omega) w
          have cv := fun w => plain_any V (by have := HSZ.out; omega) w
          have HST3 : Hid (stay (ss.map bl) (bl s) = (st ++ [(pl (bl N), pl (bl V))].filter (keep (ss.map bl))) ++ stay (ss.map bl) (bl B)) := hide (by rw [HST2.out, hNV, pp_some _ _ hnN, List.append_assoc])
          have HT : Hid (∀ wx, Below wr.heap.size wr wx → Calls Tryz.prog 75 #[.string ⟨(pl (bl N)).toArray⟩, .string ⟨(pl (bl V)).toArray⟩, .pointer (some ⟨Hb, 0, none⟩), .pointer (some ⟨Hb + 1, 0, none⟩), .pointer (some ⟨Hb + 3, 0, none⟩)] wx fun e w' => e = .returned (.tuple #[]) ∧ Hid (Inv Hb v (st ++ [(pl (bl N), pl (bl V))].filter (keep (ss.map bl))) w' ∧ Below Hb w w')) := hide (by
            intro wx hx
            have hwx : Below Hb w wx := HR.out.2.1.trans (hx.mono (by have := HR.out.1.lt; omega))
            refine (part_told Hb v ss st N V w0 wx h0 (HR.out.1.keep hx) HV.out (HB.out.trans hwx) (by have := HSZ.out; omega) (by have := HSZ.out; omega) (by omega) hl).mono ?_
            rintro e w' ⟨h1, h2, h3⟩
            exact ⟨h1, hide ⟨h2, hwx.trans h3⟩⟩)
          have HLN : Hid ((st ++ [(pl (bl N), pl (bl V))].filter (keep (ss.map bl))).length + B.size ≤ s.size) := hide (by
            have h1 := filter_len (keep (ss.map bl)) (pl (bl N), pl (bl V))
            have h2 := HSZ.out
            rw [List.length_append]
            omega)
          have hBs : B.size + 1 ≤ gk - 1 := by have := HSZ.out; omega
          have hBS : B.size ≤ s.size := by have := HSZ.out; omega
          clear hNV hnN hcol HST2 HR hszA HSZ
          generalize (⟨(pl (bl N)).toArray⟩ : ByteArray) = PN at cn HT
          generalize (⟨(pl (bl V)).toArray⟩ : ByteArray) = PV at cv HT
          go_wp2_with fail
          refine (cc _).mono ?_
          rintro e w1 ⟨rfl, hb1⟩
          go_wp2_with fail
          refine (cd _).mono ?_
          rintro e w2 ⟨rfl, hb2⟩
          go_wp2_with fail
          refine (cn _).mono ?_
          rintro e w3 ⟨rfl, hb3⟩
          go_wp2_with fail
          refine (cv _).mono ?_
          rintro e w4 ⟨rfl, hb4⟩
          have HT4 := hide (HT.out w4 (bel2 (bel2 (bel2 hb1 hb2) hb3) hb4))
          clear hb1 hb2 hb3 hb4 HT cc cd cn cv
          go_wp2_with fail
          refine HT4.out.mono ?_
          rintro e w5 ⟨rfl, HR5⟩
          clear HT4
          go_wp2_with fail
          go_roundg (gk - 1)
          case measure => omega
          case rel => exact ⟨B, true, st ++ [(pl (bl N), pl (bl V))].filter (keep (ss.map bl)), rfl, rfl, hBS, by have := HLN.out; omega, fun _ => ⟨hBs, HLN.out⟩, hide ⟨HR5.out.1, HR5.out.2, by rw [if_pos rfl]; exact HST3.out⟩⟩
        · have cd := fun w => cut_none A 58 hcol w
          have HST3 : Hid (stay (ss.map bl) (bl s) = st ++ stay (ss.map bl) (bl B)) := hide (by rw [HST2.out, pp_none _ hcol]; rfl)
          have hBs : B.size + 1 ≤ gk - 1 := by have := HSZ.out; omega
          have hBS : B.size ≤ s.size := by have := HSZ.out; omega
          have hLN : st.length + B.size ≤ s.size := by have := HSZ.out; omega
          clear hcol HST2 HSZ
          go_wp2_with fail
          refine (cc _).mono ?_
          rintro e w1 ⟨rfl, hb1⟩
          go_wp2_with fail
          refine (cd _).mono ?_
          rintro e w2 ⟨rfl, hb2⟩
          have HR2 := hide (And.intro (HR.out.1.keep (bel2 hb1 hb2)) (HR.out.2.1.trans ((bel2 hb1 hb2).mono (by have := HR.out.1.lt; omega))))
          clear hb1 hb2 HR cc cd
          go_wp2_with fail
          go_roundg (gk - 1)
          case measure => omega
          case rel => exact ⟨B, true, st, rfl, rfl, hBS, by omega, fun _ => ⟨hBs, hLN⟩, hide ⟨HR2.out.1, HR2.out.2, by rw [if_pos rfl]; exact HST3.out⟩⟩
      · have cc := fun w => cut_none S 59 hsemi w
        have HST2 : Hid (stay (ss.map bl) (bl s) = st ++ (pp (bl S)).toList.filter (keep (ss.map bl))) := hide (by rw [HST.out, stay_end _ _ hsemi])
        clear hsemi HST
        by_cases hcol : (58 : UInt8) ∈ bl S
        · obtain ⟨N, V, hNV, hnN⟩ := split_ba S 58 hcol
          have hszA : S.size = N.size + 1 + V.size := by
            have := congrArg List.length hNV
            rw [bl_len, List.length_append, List.length_cons, bl_len, bl_len] at this
            omega
          have cd := fun w => cut_some S 58 N V hNV hnN (by omega) w
          have cn := fun w => plain_any N (by omega) w
          have cv := fun w => plain_any V (by omega) w
          have HST3 : Hid (stay (ss.map bl) (bl s) = (st ++ [(pl (bl N), pl (bl V))].filter (keep (ss.map bl))) ++ []) := hide (by rw [HST2.out, hNV, pp_some _ _ hnN, List.append_nil])
          have HT : Hid (∀ wx, Below wr.heap.size wr wx → Calls Tryz.prog 75 #[.string ⟨(pl (bl N)).toArray⟩, .string ⟨(pl (bl V)).toArray⟩, .pointer (some ⟨Hb, 0, none⟩), .pointer (some ⟨Hb + 1, 0, none⟩), .pointer (some ⟨Hb + 3, 0, none⟩)] wx fun e w' => e = .returned (.tuple #[]) ∧ Hid (Inv Hb v (st ++ [(pl (bl N), pl (bl V))].filter (keep (ss.map bl))) w' ∧ Below Hb w w')) := hide (by
            intro wx hx
            have hwx : Below Hb w wx := HR.out.2.1.trans (hx.mono (by have := HR.out.1.lt; omega))
            refine (part_told Hb v ss st N V w0 wx h0 (HR.out.1.keep hx) HV.out (HB.out.trans hwx) (by omega) (by omega) (by omega) hl).mono ?_
            rintro e w' ⟨h1, h2, h3⟩
            exact ⟨h1, hide ⟨h2, hwx.trans h3⟩⟩)
          have HLN : Hid ((st ++ [(pl (bl N), pl (bl V))].filter (keep (ss.map bl))).length ≤ s.size + 1) := hide (by
            have h1 := filter_len (keep (ss.map bl)) (pl (bl N), pl (bl V))
            rw [List.length_append]
            omega)
          have hgp : 1 ≤ gk := by omega
          clear hNV hnN hcol HST2 HR hszA
          generalize (⟨(pl (bl N)).toArray⟩ : ByteArray) = PN at cn HT
          generalize (⟨(pl (bl V)).toArray⟩ : ByteArray) = PV at cv HT
          go_wp2_with fail
          refine (cc _).mono ?_
          rintro e w1 ⟨rfl, hb1⟩
          go_wp2_with fail
          refine (cd _).mono ?_
          rintro e w2 ⟨rfl, hb2⟩
          go_wp2_with fail
          refine (cn _).mono ?_
          rintro e w3 ⟨rfl, hb3⟩
          go_wp2_with fail
          refine (cv _).mono ?_
          rintro e w4 ⟨rfl, hb4⟩
          have HT4 := hide (HT.out w4 (bel2 (bel2 (bel2 hb1 hb2) hb3) hb4))
          clear hb1 hb2 hb3 hb4 HT cc cd cn cv
          go_wp2_with fail
          refine HT4.out.mono ?_
          rintro e w5 ⟨rfl, HR5⟩
          clear HT4
          go_wp2_with fail
          go_roundg (gk - 1)
          case measure => omega
          case rel => exact ⟨⟨#[]⟩, false, st ++ [(pl (bl N), pl (bl V))].filter (keep (ss.map bl)), rfl, rfl, Nat.zero_le _, (show _ + 0 ≤ _ from HLN.out), (fun h => by cases h), hide ⟨HR5.out.1, HR5.out.2, by rw [if_neg (by decide)]; exact HST3.out⟩⟩
        · have cd := fun w => cut_none S 58 hcol w
          have HST3 : Hid (stay (ss.map bl) (bl s) = st ++ []) := hide (by rw [HST2.out, pp_none _ hcol]; rfl)
          have hgp : 1 ≤ gk := by omega
          have hLN : st.length ≤ s.size + 1 := by omega
          clear hcol HST2
          go_wp2_with fail
          refine (cc _).mono ?_
          rintro e w1 ⟨rfl, hb1⟩
          go_wp2_with fail
          refine (cd _).mono ?_
          rintro e w2 ⟨rfl, hb2⟩
          have HR2 := hide (And.intro (HR.out.1.keep (bel2 hb1 hb2)) (HR.out.2.1.trans ((bel2 hb1 hb2).mono (by have := HR.out.1.lt; omega))))
          clear hb1 hb2 HR cc cd
          go_wp2_with fail
          go_roundg (gk - 1)
          case measure => omega
          case rel => exact ⟨⟨#[]⟩, false, st, rfl, rfl, Nat.zero_le _, (show _ + 0 ≤ _ from hLN), (fun h => by cases h), hide ⟨HR2.out.1, HR2.out.2, by rw [if_neg (by decide)]; exact HST3.out⟩⟩
end Go.Proofs.YtbcadeikdmlpoaaGreatDoor.Sy

namespace Go.Proofs.YtbcadeikdmlpoaaGreatDoor.Sy
open Go.RowKit Go.WideMaps
open Utf1 Sty

theorem bat_keep {T e : TypeId} {B b : Nat} {p : Value} {bs : List Value} {w w' : World} (h : Lib.BuilderAtF T e B b p bs w) (hb : Below w.heap.size w w') : Lib.BuilderAtF T e B b p bs w' := by
  have hl := h.lt
  obtain ⟨h1, v, h2, h3, h4⟩ := h
  exact ⟨h1, v, (hb.block b hl).trans h2, h3.kept (row := none) (below_grown hb) (Classical.em _), h4⟩
/-- The answer's builder. -/
def PB (w0 w : World) (acc : List UInt8) : Prop := Lib.IsBuilderF 92 5 w0.heap.size w0.heap.size (Lib.byteCells acc) w
theorem PB.keep {w0 w w' : World} {acc : List UInt8} (h : PB w0 w acc) (hb : Below w.heap.size w w') : PB w0 w' acc :=
  h.elim (fun x => .inl (bat_keep x hb)) (fun x => .inr (bat_keep x hb))
theorem PB.lt {w0 w : World} {acc : List UInt8} (h : PB w0 w acc) : w0.heap.size < w.heap.size := h.elim (fun x => x.lt) (fun x => x.lt)
theorem ws_st (w0 w : World) (acc : List UInt8) (s : ByteArray) (hb : Below w0.heap.size w0 w) (hu : PB w0 w acc) (hl : acc.length + s.size ≤ 1000000000) :
    Calls Tryz.prog 78 #[.pointer (some ⟨w0.heap.size, 0, none⟩), .string s] w fun e w' => e = .returned (.tuple #[.int .i64 s.size, .nilIface]) ∧ Hid (PB w0 w' (acc ++ bl s) ∧ Below w0.heap.size w0 w' ∧ Lib.OthersKept 5 (some w0.heap.size) w w') := by
  refine (Tryz.Builder_WriteString_k w0.heap.size w0.heap.size _ s w hu (by rw [Lib.byteCells_length]; omega) hb.size).mono ?_
  rintro e w' ⟨rfl, h1, b1, k1⟩
  refine ⟨rfl, hide ⟨.inr ?_, hb.trans b1, k1⟩⟩
  have e : Lib.byteCells (acc ++ bl s) = Lib.byteCells acc ++ Lib.strCells s := by rw [Lib.byteCells_append]; rfl
  rw [e]
  exact h1
theorem kept_cell {w w' : World} {B b : Nat} {cs : Array Value} {t : TypeId} (hk : Lib.OthersKept 5 (some B) w w') (h : w.heap[b]? = some (.cells cs t (0, 0))) (hb : b ≠ B) (ht : t ≠ 5) : w'.heap[b]? = some (.cells cs t (0, 0)) :=
  hk _ _ h (by intro e; injection e with e; exact hb e) (by intro c fz e; injection e with _ e; exact ht e)
theorem inv_new (w : World) (v : Value) :
    Inv w.heap.size v [] ((((w.alloc (.cells #[v] 22)).alloc (.cells #[.slice none 0 0] 83)).alloc (.map #[] 0)).alloc (.cells #[.map (some (w.heap.size + 1 + 1))] 84)) ∧
    Below w.heap.size w ((((w.alloc (.cells #[v] 22)).alloc (.cells #[.slice none 0 0] 83)).alloc (.map #[] 0)).alloc (.cells #[.map (some (w.heap.size + 1 + 1))] 84)) := by
  have s1 : (w.alloc (.cells #[v] 22)).heap.size = w.heap.size + 1 := by simp
  have s2 : ((w.alloc (.cells #[v] 22)).alloc (.cells #[.slice none 0 0] 83)).heap.size = w.heap.size + 2 := by simp
  have s3 : (((w.alloc (.cells #[v] 22)).alloc (.cells #[.slice none 0 0] 83)).alloc (.map #[] 0)).heap.size = w.heap.size + 3 := by simp
  have k1 := new_block w #[v] 22
  have k2 := new_block (w.alloc (.cells #[v] 22)) #[.slice none 0 0] 83
  have k4 := new_block (((w.alloc (.cells #[v] 22)).alloc (.cells #[.slice none 0 0] 83)).alloc (.map #[] 0)) #[.map (some (w.heap.size + 1 + 1))] 84
  have m3 := World.ownsMap_made (H := Unit) ((w.alloc (.cells #[v] 22)).alloc (.cells #[.slice none 0 0] 83)) Tryz.prog 9 (plainElem Tryz.prog 3)
  rw [s1] at k2
  rw [s3] at k4
  rw [s2] at m3
  refine ⟨⟨?_, ⟨.slice none 0 0, ?_, ?_⟩, k4, .map [], m3.alloc _, Maps.isMap_empty, DOk.nil _⟩, ?_⟩
  · rw [Below.heap_alloc _ _ _ (by rw [s3]; omega), Below.heap_alloc _ _ _ (by rw [s2]; omega), Below.heap_alloc _ _ _ (by rw [s1]; omega)]
    exact k1
  · rw [Below.heap_alloc _ _ _ (by rw [s3]; omega), Below.heap_alloc _ _ _ (by rw [s2]; omega)]
    exact k2
  · exact ⟨rfl, .inl ⟨rfl, rfl⟩⟩
  · exact ((((Below.refl _ w).alloc (Nat.le_refl _) _).alloc (by rw [s1]; omega) _).alloc (by rw [s2]; omega) _).alloc (by rw [s3]; omega) _

theorem wt_len : ∀ st : List NV, st.length ≤ wt st
  | [] => by simp
  | x :: r => by
    have := wt_len r
    unfold wt at this ⊢
    simp
    omega
/-- The builder, and the variable of the round beside it. -/
def BX (w1 : World) (b : Nat) (X1 X2 : ByteArray) (acc : L) (w : World) : Prop := PB w1 w acc ∧ Below w1.heap.size w1 w ∧ w.heap[b]? = some (.cells #[.string X1, .string X2] 87 (0, 0))
theorem ws_bx (w1 w : World) (b : Nat) (X1 X2 : ByteArray) (acc : L) (s : ByteArray) (h : BX w1 b X1 X2 acc w) (hb : b ≠ w1.heap.size) (hl : acc.length + s.size ≤ 1000000000) :
    Calls Tryz.prog 78 #[.pointer (some ⟨w1.heap.size, 0, none⟩), .string s] w fun e w' => e = .returned (.tuple #[.int .i64 s.size, .nilIface]) ∧ BX w1 b X1 X2 (acc ++ bl s) w' := by
  refine (ws_st w1 w acc s h.2.1 h.1 hl).mono ?_
  rintro e w' ⟨h1, h2⟩
  exact ⟨h1, h2.out.1, h2.out.2.1, kept_cell h2.out.2.2 h.2.2 hb (by decide)⟩
theorem len_bx (w1 w : World) (acc : L) (h : PB w1 w acc) :
    Calls Tryz.prog 77 #[.pointer (some ⟨w1.heap.size, 0, none⟩)] w fun e w' => e = .returned (.int .i64 (acc.length : Int)) ∧ w' = w := by
  have := Tryz.Builder_Len_f w1.heap.size w1.heap.size (Lib.byteCells acc) w h
  rw [Lib.byteCells_length] at this
  exact this
theorem last_of {D : DataW Unit} {st : List NV} (h : DOk D st) {i : Nat} {x : NV} (hx : st[i]? = some x) {c : Int} (hc : D.atKey (.string x.1) (.lit (.int .i64 0)) = .lit (.int .i64 c)) : (c = (i : Int) ∧ isLast st i) ∨ (c ≠ (i : Int) ∧ ¬ isLast st i) := by
  obtain ⟨j, h1, h2, y, h3, h4⟩ := h i x hx
  rw [h1] at hc
  have hcj : c = (j : Int) := by
    injection hc with e
    injection e with _ e
    exact e.symm
  by_cases e : j = i
  · left
    refine ⟨by rw [hcj, e], ?_⟩
    intro k a b hk ha hb hab
    rw [hx] at hb
    cases hb
    obtain ⟨j2, g1, g2, _⟩ := h k a ha
    rw [hab, h1] at g1
    have : j2 = j := by
      injection g1 with e'
      injection e' with _ e'
      omega
    omega
  · right
    refine ⟨by rw [hcj]; omega, ?_⟩
    intro hl
    exact hl j y x (by omega) h3 hx h4

set_option maxRecDepth 100000 in
set_option maxHeartbeats 16000000 in
theorem filter_any (s : ByteArray) (v : Value) (ss : List ByteArray) (hs : s.size ≤ 90000) (hl : ss.length ≤ 100000) (w : World) (hv : StrArg w v ss) :
    Calls Tryz.prog 54 #[.string s, v] w fun e w' => e = .returned (.string ⟨(filt (ss.map bl) (bl s)).toArray⟩) ∧ Below w.heap.size w w' := by
  have hmm := @run_makeMap Tryz.prog
  have hmf : ∀ (fn : Fn) (first cap : Array Value) (w : World), (Instr.makeFunc fn first cap).run Tryz.prog w = .ok (.func fn first cap) w := fun _ _ _ _ => rfl
  have hz3 : ∀ w : World, (zeroValue 3).run Tryz.prog w = .ok (.int .i64 0) w := fun w => by kernel_rfl
  obtain ⟨st, hst⟩ : ∃ st, st = stay (ss.map bl) (bl s) := ⟨_, rfl⟩
  obtain ⟨n, hn⟩ : ∃ n, n = st.length := ⟨_, rfl⟩
  have HN := hide hn
  have HOUT : Hid (filt (ss.map bl) (bl s) = outTo st n) := hide (by rw [hn, outTo_all, hst]; rfl)
  have HWT : Hid (wt st ≤ 300000) := hide (by
    have h1 := wt_filter (keep (ss.map bl)) (prts (bl s))
    have h2 := prts_wt (bl s)
    rw [bl_len] at h2
    rw [hst]
    unfold stay
    omega)
  have hwl : n ≤ 300000 := by
    have h1 := HWT.out
    have h2 := wt_len st
    omega
  have HC : Hid (∀ p cap, v = .slice p ss.length cap → Calls Tryz.prog 74 #[.string s, tellV w.heap.size] ((((w.alloc (.cells #[.slice p ss.length cap] 22)).alloc (.cells #[.slice none 0 0] 83)).alloc (.map #[] 0)).alloc (.cells #[.map (some (w.heap.size + 1 + 1))] 84)) fun e w' => e = .returned (.tuple #[]) ∧ Hid (Inv w.heap.size v st w' ∧ Below w.heap.size w w')) := hide (by
    intro p cap e
    obtain ⟨h1, h2⟩ := inv_new w v
    rw [← e]
    refine (each_any w.heap.size v ss s w _ rfl h1 hv h2 hs hl).mono ?_
    rintro e w' ⟨h3, h4, h5⟩
    exact ⟨h3, hide ⟨by rw [hst]; exact h4, h2.trans h5⟩⟩)
  rw [HOUT.out]
  obtain ⟨p, cap, rfl, -, -⟩ := hv
  have HC := hide (HC.out p cap rfl)
  clear hst HOUT hn
  go_enter Tryz.func54, Tryz.ntmps54
  go_wp2_with fail
  refine HC.out.mono ?_
  rintro e w1 ⟨rfl, HI⟩
  clear HC hmm hmf
  have hb1 : Below w1.heap.size w1 (w1.alloc (.cells #[.pointer none, .slice none 0 0] 92)) := (Below.refl _ _).alloc (Nat.le_refl _) _
  have HB1 := hide hb1
  have HU1 : Hid (PB w1 (w1.alloc (.cells #[.pointer none, .slice none 0 0] 92)) []) := hide (Lib.IsBuilderF.of (Lib.fresh_isBuilder 92 5 w1))
  obtain ⟨u, hsb, hown⟩ := HI.out.1.sb
  obtain ⟨sp, sc, rfl⟩ : ∃ sp sc, u = .slice sp n sc := by
    rcases hown.2 with ⟨rfl, h0⟩ | ⟨g, cap, cur, rfl, _⟩
    · exact ⟨none, 0, by rw [HN.out, h0]⟩
    · exact ⟨_, _, by rw [HN.out]⟩
  have cS := cell_keep (cell_of_one hsb) hb1
  have HOW := hide hown
  clear hsb hown hb1
  go_wp2_with fail
  clear cS
  go_loopg [16] n (fun g v16 wr => ∃ i : Nat, i + g = n ∧ v16 = .int .i64 (i : Int) ∧ Hid (PB w1 wr (outTo st i) ∧ Below w1.heap.size w1 wr))
  case atStart => exact ⟨0, by omega, rfl, hide ⟨HU1.out, HB1.out⟩⟩
  case round =>
    obtain ⟨i, hi, rfl, HR⟩ := hrel
    clear HU1 HB1
    by_cases hlt : i < n
    · obtain ⟨x, hx⟩ : ∃ x, st[i]? = some x := ⟨_, List.getElem?_eq_getElem (by rw [← HN.out]; exact hlt)⟩
      obtain ⟨g, rfl⟩ : ∃ g, sp = some ⟨g, 0, none⟩ := by
        rcases HOW.out.2 with ⟨e, h0⟩ | ⟨g, cap, cur, e, _⟩
        · have := HN.out; omega
        · injection e with e; exact ⟨g, e⟩
      obtain ⟨r0, r1⟩ := rowV_at st i x hx
      have hos := HOW.out
      rw [← HN.out] at hos
      have x0 := hos.cellAt (2 * i) (by omega)
      have x1 := hos.cellAt (2 * i + 1) (by omega)
      rw [r0] at x0
      rw [r1] at x1
      have x0 := cell_keep x0 HR.out.2
      have x1 := cell_keep x1 HR.out.2
      rw [show 2 * i = i * 2 by omega] at x0 x1
      have hwi : (outTo st i).length + (x.1.length + x.2.length + 4) ≤ 300000 := by
        have h1 := outTo_len st i
        have h2 := wt_take st (i + 1)
        have hw : wt (st.take (i + 1)) = wt (st.take i) + (x.1.length + x.2.length + 4) := by
          rw [List.take_add_one, hx]
          unfold wt
          simp
        have h3 := HWT.out
        omega
      obtain ⟨w2, hw2⟩ : ∃ w2, w2 = wr.alloc (.cells #[.string ⟨x.1.toArray⟩, .string ⟨x.2.toArray⟩] 87) := ⟨_, rfl⟩
      have hb2 : Below wr.heap.size wr w2 := by rw [hw2]; exact (Below.refl _ _).alloc (Nat.le_refl _) _
      have hb12 : Below w1.heap.size w1 w2 := HR.out.2.trans (hb2.mono HR.out.2.size)
      have hbx : w2.heap[wr.heap.size]? = some (.cells #[.string ⟨x.1.toArray⟩, .string ⟨x.2.toArray⟩] 87 (0, 0)) := by rw [hw2]; exact new_block _ _ _
      have hlt1 := HR.out.1.lt
      have hI2 := HI.out.1.keep hb12
      have cM := cell_of_one hI2.mb
      obtain ⟨D, hmap, -, hok⟩ := hI2.mp
      obtain ⟨c, hlk, hat, wc⟩ := hmap.lookup_int (Maps.string_keyed Tryz.underlying9) Tryz.underlying84 Tryz.underlying3 (hz3 _) (keyOf_string_mk (P := Tryz.prog) Tryz.underlying9 (s := ⟨x.1.toArray⟩) (by rw [size_mk]; unfold maxLen; omega))
      have HLS := hide (last_of hok hx hat)
      have HX : Hid (BX w1 wr.heap.size ⟨x.1.toArray⟩ ⟨x.2.toArray⟩ (outTo st i) w2) := hide ⟨HR.out.1.keep hb2, hb12, hbx⟩
      have HSZ : Hid ((⟨x.1.toArray⟩ : ByteArray).size = x.1.length ∧ (⟨x.2.toArray⟩ : ByteArray).size = x.2.length) := hide ⟨size_mk _, size_mk _⟩
      have HBL : Hid (bl ⟨x.1.toArray⟩ = x.1 ∧ bl ⟨x.2.toArray⟩ = x.2) := hide ⟨rfl, rfl⟩
      have y0 := tag_cell hbx 0 _ rfl
      have HLE := hide (outTo_last st i x · hx)
      have HLK := hide (outTo_skip st i)
      have HWI := hide hwi
      generalize (⟨x.1.toArray⟩ : ByteArray) = X1 at *
      generalize (⟨x.2.toArray⟩ : ByteArray) = X2 at *
      have HHX := hide hx
      clear hx r0 r1 hos hb2 hb12 hbx hI2 hmap hok hat wc hwi HR
      go_upto_region 8 with fail
      rw [← hw2]
      clear hw2 x0 x1
      rcases HLS.out with ⟨hc, hlast⟩ | ⟨hc, hlast⟩
      · subst hc
        have HEM := hide (HLE.out hlast)
        clear HLS HLE HLK hlast
        have hne : (((i : Int)) != (i : Int)) = false := by simp
        obtain ⟨acc, hacc⟩ : ∃ acc, acc = outTo st i := ⟨_, rfl⟩
        rw [← hacc] at HX HEM HWI
        clear hacc
        have cl := fun w h => len_bx w1 w acc h
        have HCL := hide cl
        clear cl
        by_cases ha : acc = []
        · subst ha
          have HE2 : Hid (outTo st (i + 1) = [] ++ bl X1 ++ bl ⟨#[58, 32]⟩ ++ bl X2) := hide (by rw [HEM.out, HBL.out.1, HBL.out.2]; rfl)
          have CL := hide (HCL.out w2 HX.out.1)
          have C1 := hide (ws_bx w1 w2 wr.heap.size X1 X2 [] X1 HX.out (by omega) (by have h1 := HWI.out; have h2 := HSZ.out; simp; omega))
          clear HCL HEM
          go_wp2_with fail
          refine CL.out.mono ?_
          rintro e w3 ⟨rfl, rfl⟩
          clear CL
          go_wp2_with fail
          refine C1.out.mono ?_
          rintro e w4 ⟨rfl, h4⟩
          have C2 := hide (ws_bx w1 w4 wr.heap.size X1 X2 _ ⟨#[58, 32]⟩ h4 (by omega) (by have h1 := HWI.out; have h2 := HSZ.out; simp only [List.length_append, bl_len]; show _ + 2 ≤ _; simp; omega))
          clear C1 HX y0 h4
          go_wp2_with fail
          refine C2.out.mono ?_
          rintro e w5 ⟨rfl, h5⟩
          have y1 := tag_cell h5.2.2 1 _ rfl
          have C3 := hide (ws_bx w1 w5 wr.heap.size X1 X2 _ X2 h5 (by omega) (by have h1 := HWI.out; have h2 := HSZ.out; simp only [List.length_append, bl_len]; show _ + 2 + _ ≤ _; simp; omega))
          clear C2 h5
          go_wp2_with fail
          refine C3.out.mono ?_
          rintro e w6 ⟨rfl, h6⟩
          have HR2 : Hid (PB w1 w6 (outTo st (i + 1)) ∧ Below w1.heap.size w1 w6) := hide ⟨by rw [HE2.out]; exact h6.1, h6.2.1⟩
          clear C3 h6 y1
          go_wp2_with fail
          go_roundg (gk - 1)
          case measure => omega
          case rel => exact ⟨i + 1, by omega, by first | rfl | simp, HR2⟩
        · have HE2 : Hid (outTo st (i + 1) = acc ++ bl ⟨#[59, 32]⟩ ++ bl X1 ++ bl ⟨#[58, 32]⟩ ++ bl X2) := hide (by rw [HEM.out, HBL.out.1, HBL.out.2]; unfold emit; rw [if_neg ha])
          have CL := hide (HCL.out w2 HX.out.1)
          have C0 := hide (ws_bx w1 w2 wr.heap.size X1 X2 acc ⟨#[59, 32]⟩ HX.out (by omega) (by have h1 := HWI.out; show _ + 2 ≤ _; omega))
          have hpos : 0 < acc.length := List.length_pos_iff.2 ha
          generalize hal : acc.length = al at *
          have hgt : decide ((0 : Int) < (al : Int)) = true := decide_eq_true (by omega)
          have HAL := hide hal
          clear HCL HEM ha hal
          go_wp2_with fail
          refine CL.out.mono ?_
          rintro e w3 ⟨rfl, rfl⟩
          clear CL y0
          go_wp2_with fail
          refine C0.out.mono ?_
          rintro e w4 ⟨rfl, h4⟩
          have y0 := tag_cell h4.2.2 0 _ rfl
          have C1 := hide (ws_bx w1 w4 wr.heap.size X1 X2 _ X1 h4 (by omega) (by have h1 := HWI.out; have h2 := HSZ.out; rw [List.length_append, bl_len, HAL.out]; show _ + 2 + _ ≤ _; omega))
          clear C0 HX h4
          go_wp2_with fail
          refine C1.out.mono ?_
          rintro e w5 ⟨rfl, h5⟩
          have C2 := hide (ws_bx w1 w5 wr.heap.size X1 X2 _ ⟨#[58, 32]⟩ h5 (by omega) (by have h1 := HWI.out; have h2 := HSZ.out; rw [List.length_append, List.length_append, bl_len, bl_len, HAL.out]; show _ + 2 + _ + 2 ≤ _; omega))
          clear C1 h5 y0
          go_wp2_with fail
          refine C2.out.mono ?_
          rintro e w6 ⟨rfl, h6⟩
          have y1 := tag_cell h6.2.2 1 _ rfl
          have C3 := hide (ws_bx w1 w6 wr.heap.size X1 X2 _ X2 h6 (by omega) (by have h1 := HWI.out; have h2 := HSZ.out; rw [List.length_append, List.length_append, List.length_append, bl_len, bl_len, bl_len, HAL.out]; show _ + 2 + _ + 2 + _ ≤ _; omega))
          clear C2 h6
          go_wp2_with fail
          refine C3.out.mono ?_
          rintro e w7 ⟨rfl, h7⟩
          have HR2 : Hid (PB w1 w7 (outTo st (i + 1)) ∧ Below w1.heap.size w1 w7) := hide ⟨by rw [HE2.out]; exact h7.1, h7.2.1⟩
          clear C3 h7 y1
          go_wp2_with fail
          go_roundg (gk - 1)
          case measure => omega
          case rel => exact ⟨i + 1, by omega, by first | rfl | simp, HR2⟩
      · have hne : (c != (i : Int)) = true := by simpa using hc
        have HR2 : Hid (PB w1 w2 (outTo st (i + 1)) ∧ Below w1.heap.size w1 w2) := hide ⟨by rw [HLK.out hlast]; exact HX.out.1, HX.out.2.1⟩
        clear HLS HLE HLK hlast hc HX
        go_wp2_with fail
        go_roundg (gk - 1)
        case measure => omega
        case rel => exact ⟨i + 1, by omega, by first | rfl | simp, HR2⟩
    · have hin : i = n := by omega
      subst hin
      have HS := hide (Tryz.Builder_String_any_k w1.heap.size w1.heap.size (outTo st i) wr HR.out.1 HR.out.2.size)
      go_wp2_with fail
      refine HS.out.mono ?_
      rintro e w3 ⟨rfl, _, m2, _⟩
      have HB3 := hide (HI.out.2.trans ((HR.out.2.trans m2).mono HI.out.2.size))
      clear m2 HS HR
      go_wp2_with fail
      go_ret
      exact ⟨rfl, HB3.out⟩
end Go.Proofs.YtbcadeikdmlpoaaGreatDoor.Sy
