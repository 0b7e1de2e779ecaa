/-
  Texts as lists of bytes, slices of strings, rows of strings: what all walks of this layer use.
-/
import Derived.Test.YtmogplecohkjcaaGreatDoorProg
import Derived.Test.YtmogplecohkjcaaGreatDoorMath
import Derived.WalkKit
import Derived.WalkSpells
import Derived.WalkLawsBesides
import Derived.BigCall
import Derived.Laws.IdiomStrings
import Derived.Lib.AppendStr
import Derived.Deep.LoopGhost
import Derived.Deep.CutBlock
import Derived.WalkMore
import Derived.Laws.OwnMore
import Derived.Maps.AppendAt
import Derived.OwnWalk
import Derived.KernelRfl
import Derived.Lib.Strings
namespace Go.Proofs.YtmogplecohkjcaaGreatDoor
open Go.RowKit
open Utf1

/-- A text's bytes as a list. -/
abbrev bl (s : ByteArray) : List UInt8 := s.data.toList

theorem bl_len (s : ByteArray) : (bl s).length = s.size := Array.length_toList


theorem hide {p : Prop} (h : p) : Hid p := h


theorem ret_int {k : IntKind} {a b : Int} (h : a = b) : Ending.returned (.int k a) = .returned (.int k b) := by rw [h]


theorem ret_bool {a b : Bool} (h : a = b) : Ending.returned (.bool a) = .returned (.bool b) := by rw [h]

theorem ret_str {a b : ByteArray} (h : a = b) : Ending.returned (.string a) = .returned (.string b) := by rw [h]


theorem beq_ne {a b : ByteArray} (h : bl a ≠ bl b) : (a.toList == b.toList) = false := by rw [ByteArray.toList_eq, ByteArray.toList_eq]; exact beq_eq_false_iff_ne.2 h

theorem beq_same {a b : ByteArray} (h : bl a = bl b) : (a.toList == b.toList) = true := by rw [ByteArray.toList_eq, ByteArray.toList_eq]; exact beq_iff_eq.2 h


theorem extract_take (s : ByteArray) (e : Nat) : s.extract 0 e = ⟨((bl s).take e).toArray⟩ := by
  apply ByteArray.ext
  apply Array.toList_inj.1
  rw [Lib.extract_data]
  simp


theorem idx_run (s : ByteArray) (pos k : Nat) (h : pos + k < s.size) (w : World) :
    (Instr.index 9 (.string s) (.int .i64 ((pos + k : Nat) : Int))).run Tryz.prog w = .ok (.int .u8 (atN ((bl s).drop pos) k : Nat)) w := by
  have e : atN ((bl s).drop pos) k = (s[pos + k]'h).toNat := by
    unfold atN
    have hk : pos + k < (bl s).length := by rw [bl_len]; exact h
    rw [List.getD_eq_getElem?_getD, List.getElem?_drop, List.getElem?_eq_getElem hk]
    rfl
  rw [e]
  have hh : 0 ≤ ((pos + k : Nat) : Int) ∧ ((pos + k : Nat) : Int) < (s.size : Int) := by omega
  have := run_index_string (P := Tryz.prog) w 9 s .i64 ((pos + k : Nat) : Int) Tryz.underlying9
  rw [this, dif_pos hh]
  rfl


theorem extract_bl (s : ByteArray) (a b : Nat) : bl (s.extract a b) = ((bl s).drop a).take (b - a) := Lib.extract_data s a b
theorem drop_cons (s : ByteArray) (k : Nat) (h : k < s.size) : (bl s).drop k = (bl s)[k]'(by rw [bl_len]; exact h) :: (bl s).drop (k + 1) := List.drop_eq_getElem_cons _
theorem atN_drop (s : ByteArray) (k : Nat) (h : k < s.size) : atN ((bl s).drop k) 0 = ((bl s)[k]'(by rw [bl_len]; exact h)).toNat := by
  rw [drop_cons s k h]
  rfl
theorem idxK {s : ByteArray} {k : Nat} {c : UInt8} (h : (bl s)[k]? = some c) (w : World) : (Instr.index 9 (.string s) (.int .i64 (k : Int))).run Tryz.prog w = .ok (.int .u8 (c.toNat : Int)) w := by
  have hl : k < s.size := by
    rw [← bl_len]
    exact (List.getElem?_eq_some_iff.1 h).1
  have := idx_run s k 0 hl w
  rw [atN_drop s k hl] at this
  have e : (bl s)[k]'(by rw [bl_len]; exact hl) = c := by
    rw [List.getElem?_eq_getElem (by rw [bl_len]; exact hl)] at h
    exact Option.some.inj h
  rw [e] at this
  exact this
theorem app_bl (a b : ByteArray) : bl (a ++ b) = bl a ++ bl b := by
  show (a ++ b).data.toList = _
  rw [ByteArray.data_append, Array.toList_append]
theorem app_size (a b : ByteArray) : (a ++ b).size = a.size + b.size := by
  rw [← bl_len, app_bl, List.length_append, bl_len, bl_len]
theorem ba_ext {a b : ByteArray} (h : bl a = bl b) : a = b := by
  cases a
  cases b
  simpa using h
theorem u8_eq {c : UInt8} {n : Nat} (hn : n < 256) : c = UInt8.ofNat n ↔ c.toNat = n := by
  constructor
  · rintro rfl
    exact toNat_ofNat hn
  · intro h
    exact (ofNat_of h.symm).symm
theorem eq_lit (s : ByteArray) (l : List UInt8) : (s.toList == l) = decide (bl s = l) := by
  rw [ByteArray.toList_eq]
  by_cases h : bl s = l
  · rw [decide_eq_true h]
    exact beq_iff_eq.2 h
  · rw [decide_eq_false h]
    exact beq_eq_false_iff_ne.2 h
theorem eq_two (a b : ByteArray) : (a.toList == b.toList) = decide (bl a = bl b) := by
  rw [ByteArray.toList_eq b]
  exact eq_lit a _

theorem add_plain (b off j : Nat) : (⟨b, off, none⟩ : Addr).add j = ⟨b, off + j, none⟩ := by cases j <;> simp [Addr.add]
/-- A slice of strings that is only read. -/
def StrArg (w : World) (v : Value) (ss : List ByteArray) : Prop := ∃ p cap, v = .slice p ss.length cap ∧ (p = none → cap = 0) ∧ ∀ i s, ss[i]? = some s → ∃ b off, p = some ⟨b, off, none⟩ ∧ w.cell? ⟨b, off + i, none⟩ = some (.string s)

theorem cell_keep {w w' : World} {a : Addr} {v : Value} (h : w.cell? a = some v) (hb : Below w.heap.size w w') : w'.cell? a = some v := by
  have hlt : a.block < w.heap.size := by
    unfold World.cell? at h
    cases e : w.heap[a.block]? with
    | none => rw [e] at h; simp at h
    | some o => exact (Array.getElem?_eq_some_iff.1 e).1
  rw [hb.cell hlt]
  exact h
theorem StrArg.below {w w' : World} {v : Value} {ss : List ByteArray} (h : StrArg w v ss) (hb : Below w.heap.size w w') : StrArg w' v ss := by
  obtain ⟨p, cap, rfl, h0, hc⟩ := h
  refine ⟨p, cap, rfl, h0, fun i s hi => ?_⟩
  obtain ⟨b, off, rfl, hcell⟩ := hc i s hi
  exact ⟨b, off, rfl, cell_keep hcell hb⟩


theorem getK (s : ByteArray) (k : Nat) (h : k < s.size) : ∃ c, (bl s)[k]? = some c := ⟨_, List.getElem?_eq_getElem (by rw [bl_len]; exact h)⟩

theorem beqK (c : UInt8) (n : Nat) (hn : n < 256) : ((c.toNat : Int) == (n : Int)) = decide (c = UInt8.ofNat n) := by
  by_cases h : c = UInt8.ofNat n
  · have e : (c.toNat : Int) = (n : Int) := by rw [h, toNat_ofNat hn]
    rw [decide_eq_true h, e]
    simp
  · have e : ¬ (c.toNat : Int) = (n : Int) := fun e => h ((u8_eq hn).2 (by omega))
    rw [decide_eq_false h]
    simpa using e


theorem infoStr : (Tryz.prog.info? 9).map (fun i => (i.zero, i.size, i.bytes)) = some (some (.string ⟨#[]⟩), 1, 16) := by kernel_rfl

def strV (l : List ByteArray) : List Value := l.map fun x => .string x

theorem strV_app (a b : List ByteArray) : strV (a ++ b) = strV a ++ strV b := List.map_append

theorem strV_len (a : List ByteArray) : (strV a).length = a.length := List.length_map ..

theorem one_new (w : World) (a : Value) (t : TypeId) : ∀ j u, [a][j]? = some u → (w.alloc (.cells #[a] t)).cell? ((⟨w.heap.size, 0, none⟩ : Addr).add j) = some u := by
  intro j u h
  rw [add_plain, Nat.zero_add]
  match j, h with
  | 0, h => simp at h; subst h; simp
  | j + 1, h => simp at h

theorem own_shape {w : World} {B : Nat} {e : TypeId} {z : Nat} {v : Value} {n : Nat} {xs : List Value} (h : w.ownsRow B e z v n xs) : ∃ p c, v = .slice p n c ∧ (p = none → c = 0) := by
  rcases h.2 with ⟨rfl, h0⟩ | ⟨g, cap, cur, rfl, _⟩
  · exact ⟨none, 0, by rw [h0], fun _ => rfl⟩
  · exact ⟨_, _, rfl, fun h => by cases h⟩

theorem own_arg {w : World} {B : Nat} {v : Value} {ss : List ByteArray} (h : w.ownsRow B 9 1 v ss.length (strV ss)) : StrArg w v ss := by
  have h0 := h
  rcases h.2 with ⟨rfl, hz⟩ | ⟨g, cap, cur, rfl, _⟩
  · have : ss = [] := List.eq_nil_of_length_eq_zero hz
    subst this
    exact ⟨none, 0, rfl, fun _ => rfl, fun i s h => by simp at h⟩
  · refine ⟨some ⟨g, 0, none⟩, cap, rfl, (fun h => by cases h), fun i s hi => ⟨g, 0, rfl, ?_⟩⟩
    have hl := (List.getElem?_eq_some_iff.1 hi).1
    rw [Nat.zero_add, h0.cellAt i (by omega)]
    unfold strV
    rw [List.getElem?_map, hi]
    rfl

theorem own_block {w : World} {B : Nat} {e : TypeId} {z n : Nat} {v : Value} {xs : List Value} (h : w.ownsRow B e z v n xs) {k : Nat} (hk : v.ownBlock = some k) : B ≤ k ∧ k < w.heap.size := by
  rcases h.2 with ⟨rfl, _⟩ | ⟨g, cap, cur, rfl, hg, hh, _⟩
  · simp [Value.ownBlock] at hk
  · simp only [Value.ownBlock, Option.some.injEq] at hk
    subst hk
    exact ⟨hg, (Array.getElem?_eq_some_iff.1 hh).1⟩

theorem empty_bl (a : ByteArray) : a.toList.isEmpty = decide (bl a = []) := by
  rw [ByteArray.toList_eq]
  by_cases h : bl a = []
  · rw [decide_eq_true h, show a.data.toList = [] from h]
    rfl
  · rw [decide_eq_false h]
    cases hh : a.data.toList with
    | nil => exact absurd hh h
    | cons x t => rfl

theorem bel2 {w w1 w2 : World} (h1 : Below w.heap.size w w1) (h2 : Below w1.heap.size w1 w2) : Below w.heap.size w w2 := h1.trans (h2.mono h1.size)
theorem bel_alloc {w w1 : World} (h : Below w.heap.size w w1) (o : Obj) : Below w.heap.size w (w1.alloc o) := h.alloc h.size o
theorem below_grown {w w' : World} (hb : Below w.heap.size w w') : w.grownBy w' none := ⟨hb.os, hb.tape, hb.output, hb.size, fun k hk _ => hb.block k hk⟩
theorem strArg_nil (w : World) : StrArg w (.slice none 0 0) [] := ⟨none, 0, rfl, fun _ => rfl, fun i s h => by simp at h⟩
theorem mem_step {ss : List ByteArray} {k : Nat} {y X : ByteArray} (h : ss[k]? = some y) : (bl X ∈ (ss.take (k + 1)).map bl) ↔ (bl X ∈ (ss.take k).map bl ∨ bl y = bl X) := by
  rw [List.take_add_one, h, List.map_append, List.mem_append]
  constructor
  · rintro (h | h)
    · exact .inl h
    · right
      have h : bl X ∈ [bl y] := h
      exact (List.mem_singleton.1 h).symm
  · rintro (h | h)
    · exact .inl h
    · right
      show bl X ∈ [bl y]
      rw [h]
      exact List.mem_singleton.2 rfl
/-- A slice of strings whose cells lie in a new block. -/
theorem strArg_row (w : World) (l : List ByteArray) (t : TypeId) : StrArg (w.alloc (.cells (strV l).toArray t)) (.slice (some ⟨w.heap.size, 0, none⟩) l.length l.length) l := by
  refine ⟨some ⟨w.heap.size, 0, none⟩, l.length, rfl, fun h => (by cases h), fun i s h => ⟨w.heap.size, 0, rfl, ?_⟩⟩
  have hb : (w.alloc (.cells (strV l).toArray t)).heap[w.heap.size]? = some (.cells (strV l).toArray t (0, 0)) := by
    show (w.heap.push _)[w.heap.size]? = _
    simp
  unfold World.cell?
  rw [hb]
  simp [strV, h]
end Go.Proofs.YtmogplecohkjcaaGreatDoor
