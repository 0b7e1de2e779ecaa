/-
  What readTag's callees answer, as its walk asks it.
-/
import Derived.Test.YtholfdfjapgfbaaGreatDoorT3
namespace Go.Proofs.YtholfdfjapgfbaaGreatDoor
open Go.RowKit
open Utf1

theorem wpAny_to {P : Program} {md : Region.Mode} {ops : Array Oper} {Q : Exit → Act → World → Prop} {i : Nat} {oi : Oper} {v : Value} {fuel : Nat} {listed : Array Bool} {a a' : Act} {w : World} (hi : ops[i]? = some oi)
    (hs : Region.noSelect ops = true) (hf : Region.free md ops listed i = true) (hr : (Region.ready md ops listed).contains i = true)
    (hQ : ∀ c a w, Q (.panic c) (a.put oi.dst v) w → Q (.panic c) a w) (hy : Yields P ops oi v a) (ha : a.put oi.dst v = a')
    (h : wpAny P md ops Q fuel (listed.setIfInBounds i true) a' w) : wpAny P md ops Q (fuel + 1) listed a w :=
  wpAny_take hi hs hf hr hQ hy (ha ▸ h)

theorem noneOf_c (t : ByteArray) (w : World) :
    Calls Tryz.prog 45 #[.string t] w fun e w' => e = .returned (.func (.func 62) #[] #[.pointer (some ⟨w.heap.size, 0, none⟩)]) ∧ w'.cell? ⟨w.heap.size, 0, none⟩ = some (.string t) ∧ w'.heap.size = w.heap.size + 1 ∧ Below w.heap.size w w' := by
  refine (noneOf_any t w).mono ?_
  rintro e w' ⟨rfl, rfl⟩
  exact ⟨rfl, by simp, by simp, (Below.refl _ _).alloc (Nat.le_refl _) _⟩
theorem oneOf_c (t : ByteArray) (w : World) :
    Calls Tryz.prog 47 #[.string t] w fun e w' => e = .returned (.func (.func 63) #[] #[.pointer (some ⟨w.heap.size, 0, none⟩)]) ∧ w'.cell? ⟨w.heap.size, 0, none⟩ = some (.string t) ∧ w'.heap.size = w.heap.size + 1 ∧ Below w.heap.size w w' := by
  refine (oneOf_any t w).mono ?_
  rintro e w' ⟨rfl, rfl⟩
  exact ⟨rfl, by simp, by simp, (Below.refl _ _).alloc (Nat.le_refl _) _⟩

theorem bl_mk (l : List UInt8) : bl ⟨l.toArray⟩ = l := rfl

/-- pass over none of some bytes. -/
theorem pass_noneE (s t : ByteArray) (P : UInt8 → Bool) (hP : ∀ x, (!(bl t).contains x) = P x) (hs : s.size ≤ 1099511627776) :
    ∃ A C : ByteArray, Hid (bl A = (bl s).takeWhile P) ∧ Hid (bl C = (bl s).dropWhile P) ∧ A.size + C.size = s.size ∧ Hid (∀ B w, w.cell? ⟨B, 0, none⟩ = some (.string t) → Calls Tryz.prog 44 #[.string s, .func (.func 62) #[] #[.pointer (some ⟨B, 0, none⟩)]] w fun e w' => e = .returned (.tuple #[.string A, .string C]) ∧ Below w.heap.size w w') := by
  have e : (fun x => !(bl t).contains x) = P := funext hP
  refine ⟨⟨((bl s).takeWhile P).toArray⟩, ⟨((bl s).dropWhile P).toArray⟩, hide rfl, hide rfl, ?_, hide fun B w h => ?_⟩
  · have := congrArg List.length (List.takeWhile_append_dropWhile (p := P) (l := bl s))
    rw [List.length_append, bl_len] at this
    rw [size_mk, size_mk]
    exact this
  · have := pass_none s t B w hs h
    rw [e] at this
    exact this
/-- pass over some bytes. -/
theorem pass_oneE (s t : ByteArray) (P : UInt8 → Bool) (hP : ∀ x, (bl t).contains x = P x) (hs : s.size ≤ 1099511627776) :
    ∃ A C : ByteArray, Hid (bl A = (bl s).takeWhile P) ∧ Hid (bl C = (bl s).dropWhile P) ∧ A.size + C.size = s.size ∧ Hid (∀ B w, w.cell? ⟨B, 0, none⟩ = some (.string t) → Calls Tryz.prog 44 #[.string s, .func (.func 63) #[] #[.pointer (some ⟨B, 0, none⟩)]] w fun e w' => e = .returned (.tuple #[.string A, .string C]) ∧ Below w.heap.size w w') := by
  have e : (fun x => (bl t).contains x) = P := funext hP
  refine ⟨⟨((bl s).takeWhile P).toArray⟩, ⟨((bl s).dropWhile P).toArray⟩, hide rfl, hide rfl, ?_, hide fun B w h => ?_⟩
  · have := congrArg List.length (List.takeWhile_append_dropWhile (p := P) (l := bl s))
    rw [List.length_append, bl_len] at this
    rw [size_mk, size_mk]
    exact this
  · have := pass_one s t B w hs h
    rw [e] at this
    exact this
/-- pass over the first byte, and none of some behind it. -/
theorem pass_firstE (s t : ByteArray) (c0 : UInt8) (tl : List UInt8) (P : UInt8 → Bool) (hP : ∀ x, (!(bl t).contains x) = P x) (hs : s.size ≤ 1099511627776) (hc0 : bl s = c0 :: tl) :
    ∃ A C : ByteArray, Hid (bl A = c0 :: tl.takeWhile P) ∧ Hid (bl C = tl.dropWhile P) ∧ A.size + C.size = s.size ∧ 1 ≤ A.size ∧ Hid (∀ K a O B w, w.heap[a]? = some (.cells #[.bool false] 4 (0, 0)) → w.cell? ⟨O, 0, none⟩ = some (.func (.func 62) #[] #[.pointer (some ⟨B, 0, none⟩)]) → w.cell? ⟨B, 0, none⟩ = some (.string t) → K ≤ a → O ≠ a → B ≠ a → Calls Tryz.prog 44 #[.string s, .func (.func 64) #[] #[.pointer (some ⟨a, 0, none⟩), .pointer (some ⟨O, 0, none⟩)]] w fun e w' => e = .returned (.tuple #[.string A, .string C]) ∧ Below K w w') := by
  have e : (fun x => !(bl t).contains x) = P := funext hP
  refine ⟨⟨(c0 :: tl.takeWhile P).toArray⟩, ⟨(tl.dropWhile P).toArray⟩, hide rfl, hide rfl, ?_, ?_, hide fun K a O B w h1 h2 h3 h4 h5 h6 => ?_⟩
  · have := congrArg List.length (List.takeWhile_append_dropWhile (p := P) (l := tl))
    rw [List.length_append] at this
    rw [size_mk, size_mk, ← bl_len, hc0]
    simp only [List.length_cons]
    omega
  · rw [size_mk]
    simp
  · have := pass_first s t c0 tl K a O B w hs hc0 h1 h2 h3 h4 h5 h6
    rw [e] at this
    exact this

theorem empty_of {s : ByteArray} (h : bl s = []) : s.toList.isEmpty = true := by
  have h : s.data.toList = _ := h
  rw [ByteArray.toList_eq, h]
  rfl
theorem nonempty_of {s : ByteArray} {c : UInt8} {t : List UInt8} (h : bl s = c :: t) : s.toList.isEmpty = false := by
  have h : s.data.toList = _ := h
  rw [ByteArray.toList_eq, h]
  rfl
theorem ext_one {s : ByteArray} {c : UInt8} {t : List UInt8} (h : bl s = c :: t) : bl (s.extract 1 s.size) = t := by
  rw [ext_drop, bl_mk, h]
  rfl
theorem ext_head {s : ByteArray} {c : UInt8} {t : List UInt8} (h : bl s = c :: t) : bl (s.extract 0 1) = [c] := by
  rw [extract_take, bl_mk, h]
  rfl
theorem size_ext_one (s : ByteArray) : (s.extract 1 s.size).size = s.size - 1 := by simp

theorem bel2 {w w1 w2 : World} (h1 : Below w.heap.size w w1) (h2 : Below w1.heap.size w1 w2) : Below w.heap.size w w2 := h1.trans (h2.mono h1.size)

/-- Where the run comes to a label by itself. -/
theorem to_label {J : Nat → Act → World → Prop} {J' : Nat → Nat → Act → World → Prop} {P : Program} {Q : Exit → Act → World → Prop} {l : Nat} {b c : Code} {a : Act} {w : World} {n : Nat}
    (hk : ∀ n a w, J n a w → ∃ rest, findLabel b l = some (.seq .skip rest) ∧ rest.wp P (jumps (fun l' a' w' => ∃ n', n' < n ∧ J' n' l' a' w') Q) a w) (hf : findLabel b l = some (.seq .skip c)) (m : Nat) (hm : m ≤ n) (hJ : J m a w) : c.wp P (jumps (fun l' a' w' => ∃ n', n' < n ∧ J' n' l' a' w') Q) a w := by
  obtain ⟨rest, h1, h2⟩ := hk m a w hJ
  rw [hf] at h1
  cases h1
  exact Code.wp_mono (jumps_mono (fun l a w ⟨n', h1, h2⟩ => ⟨n', by omega, h2⟩)) h2
theorem of_label {P : Program} {Q : Exit → Act → World → Prop} {l : Nat} {b : Code} {a : Act} {w : World} (h : ∃ rest, findLabel b l = some (.seq .skip rest) ∧ rest.wp P Q a w) : ∃ rest, findLabel b l = some rest ∧ rest.wp P Q a w := by
  obtain ⟨rest, h1, h2⟩ := h
  exact ⟨_, h1, wp_seq (wp_skip h2)⟩
theorem bel_drew {w w1 : World} (h : Below w.drew.heap.size w.drew w1) : Below w.heap.size w w1 := ((Below.refl w.heap.size w).drew).trans h
end Go.Proofs.YtholfdfjapgfbaaGreatDoor
