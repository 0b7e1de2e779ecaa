/-
  readTag at its label 'between'.
-/
import Derived.Test.YtholfdfjapgfbaaGreatDoorU0
namespace Go.Proofs.YtholfdfjapgfbaaGreatDoor
open Go.RowKit
open Utf1

theorem set_gap (x : UInt8) : (bl ⟨#[9, 10, 12, 13, 32, 47]⟩).contains x = isGap x := by
  show [9, 10, 12, 13, 32, 47].contains x = _
  simp only [List.contains_cons, List.contains_nil, Bool.or_false, isGap, isBl, Bool.or_assoc]
theorem set_bl (x : UInt8) : (bl ⟨#[9, 10, 12, 13, 32]⟩).contains x = isBl x := by
  show [9, 10, 12, 13, 32].contains x = _
  simp only [List.contains_cons, List.contains_nil, Bool.or_false, isBl, Bool.or_assoc]
theorem set_nm (x : UInt8) : (!(bl ⟨#[9, 10, 12, 13, 32, 47, 62]⟩).contains x) = !isNm x := by
  show (![9, 10, 12, 13, 32, 47, 62].contains x) = _
  simp only [List.contains_cons, List.contains_nil, Bool.or_false, isNm, isBl, Bool.or_assoc]
theorem set_at (x : UInt8) : (!(bl ⟨#[9, 10, 12, 13, 32, 47, 62, 61]⟩).contains x) = !isAt x := by
  show (![9, 10, 12, 13, 32, 47, 62, 61].contains x) = _
  simp only [List.contains_cons, List.contains_nil, Bool.or_false, isAt, isBl, Bool.or_assoc]
theorem set_va (x : UInt8) : (!(bl ⟨#[9, 10, 12, 13, 32, 62]⟩).contains x) = !isVa x := by
  show (![9, 10, 12, 13, 32, 62].contains x) = _
  simp only [List.contains_cons, List.contains_nil, Bool.or_false, isVa, isBl, Bool.or_assoc]

theorem pre_c (s : ByteArray) (p : UInt8) (b : Bool) (h : [p].isPrefixOf (bl s) = b) (w : World) : Calls Tryz.prog 40 #[.string s, .string ⟨#[p]⟩] w fun e w' => e = .returned (.bool b) ∧ w' = w := by
  subst h
  exact Tryz.strings_HasPrefix s ⟨#[p]⟩ w

theorem first_c (B : Nat) (t : ByteArray) (w : World) (h : w.cell? ⟨B, 0, none⟩ = some (.string t)) :
    Calls Tryz.prog 48 #[.func (.func 62) #[] #[.pointer (some ⟨B, 0, none⟩)]] w fun e w' => e = .returned (.func (.func 64) #[] #[.pointer (some ⟨w.heap.size + 1, 0, none⟩), .pointer (some ⟨w.heap.size, 0, none⟩)]) ∧ w'.heap[w.heap.size + 1]? = some (.cells #[.bool false] 4 (0, 0)) ∧ w'.cell? ⟨w.heap.size, 0, none⟩ = some (.func (.func 62) #[] #[.pointer (some ⟨B, 0, none⟩)]) ∧ w'.cell? ⟨B, 0, none⟩ = some (.string t) ∧ Below w.heap.size w w' := by
  refine (first_any (.func 62) #[.pointer (some ⟨B, 0, none⟩)] w).mono ?_
  rintro e w' ⟨rfl, rfl⟩
  have hB : B < w.heap.size := cell_lt h
  have hbel : Below w.heap.size w ((w.alloc (.cells #[.func (.func 62) #[] #[.pointer (some ⟨B, 0, none⟩)]] 81)).alloc (.cells #[.bool false] 4)) := ((Below.refl _ _).alloc (Nat.le_refl _) _).alloc (by simp) _
  refine ⟨rfl, ?_, ?_, (hbel.cell (p := ⟨B, 0, none⟩) hB).trans h, hbel⟩
  · show ((w.heap.push _).push _)[w.heap.size + 1]? = _
    rw [Array.getElem?_push, if_pos (by simp)]
  · show World.cell? _ _ = _
    rw [World.cell?_of_block (w := w.alloc (.cells #[.func (.func 62) #[] #[.pointer (some ⟨B, 0, none⟩)]] 81)) (Below.heap_alloc _ _ _ (by simp))]
    simp

theorem idx0 {s : ByteArray} {c : UInt8} {t : List UInt8} (h : bl s = c :: t) (w : World) : (Instr.index 9 (.string s) (.int .i64 0)).run Tryz.prog w = .ok (.int .u8 (c.toNat : Int)) w := by
  have hl : 0 + 0 < s.size := by
    rw [← bl_len, h]
    simp
  have := idx_run s 0 0 hl w
  rw [List.drop_zero, h] at this
  exact this

theorem one_plain (c : UInt8) (t s3 : List UInt8) (h : (t.dropWhile (fun x => !isAt x)).dropWhile isBl = s3) (hn : [61].isPrefixOf s3 = false) : oneAt c t = some (c :: t.takeWhile (fun x => !isAt x), [], s3) := by
  unfold oneAt
  rw [h]
  split
  · rename_i u
    simp at hn
  · rfl
theorem one_none (c : UInt8) (t u : List UInt8) (h : (t.dropWhile (fun x => !isAt x)).dropWhile isBl = 61 :: u) (h2 : u.dropWhile isBl = []) : oneAt c t = some (c :: t.takeWhile (fun x => !isAt x), [], []) := by
  unfold oneAt
  rw [h]
  simp only
  rw [h2]
theorem one_bare (c q : UInt8) (t u v : List UInt8) (h : (t.dropWhile (fun x => !isAt x)).dropWhile isBl = 61 :: u) (h2 : u.dropWhile isBl = q :: v) (hq : ¬ (q = 34 ∨ q = 39)) : oneAt c t = some (c :: t.takeWhile (fun x => !isAt x), (q :: v).takeWhile (fun x => !isVa x), (q :: v).dropWhile (fun x => !isVa x)) := by
  unfold oneAt
  rw [h]
  simp only
  rw [h2]
  simp only
  rw [if_neg hq]
theorem one_quote (c q : UInt8) (t u v : List UInt8) (h : (t.dropWhile (fun x => !isAt x)).dropWhile isBl = 61 :: u) (h2 : u.dropWhile isBl = q :: v) (hq : q = 34 ∨ q = 39) : oneAt c t = (match v.dropWhile (fun x => x != q) with | [] => none | _ :: r => some (c :: t.takeWhile (fun x => !isAt x), v.takeWhile (fun x => x != q), r)) := by
  unfold oneAt
  rw [h]
  simp only
  rw [h2]
  simp only
  rw [if_pos hq]
  cases v.dropWhile (fun x => x != q) <;> rfl
theorem attrs_quote (acc : List (List UInt8 × List UInt8)) (s t u v : List UInt8) (c q : UInt8) (hs : s.dropWhile isGap = c :: t) (hc : c ≠ 62) (h : (t.dropWhile (fun x => !isAt x)).dropWhile isBl = 61 :: u) (h2 : u.dropWhile isBl = q :: v) (hq : q = 34 ∨ q = 39) :
    attrsOf acc s = match v.dropWhile (fun x => x != q) with | [] => none | _ :: r => attrsOf (addAt acc (lower (c :: t.takeWhile (fun x => !isAt x))) (res (v.takeWhile (fun x => x != q)))) r := by
  have h1 := one_quote c q t u v h h2 hq
  cases hd : v.dropWhile (fun x => x != q) with
  | nil =>
    rw [hd] at h1
    exact attrsOf_none acc s t c hs hc h1
  | cons z r =>
    rw [hd] at h1
    exact attrsOf_one acc s t c _ _ _ hs hc h1

theorem res_empty : res [] = [] := rfl
end Go.Proofs.YtholfdfjapgfbaaGreatDoor
