/-
  What refs.refOf and refs.Escape answer.
-/
import Derived.Test.YtholfdfjapgfbaaV1
import Derived.Test.YtholfdfjapgfbaaM3
import Derived.WalkMore
namespace Go.Proofs.Ytholfdfjapgfbaa
open Go.RowKit
open Utf1

theorem refOf_any (r : Nat) (q : Bool) (hr : r ≤ 1114111) (w : World) :
    Calls Try.prog 58 #[.int .i32 (r : Int), .bool q] w fun e w' => e = .returned (.string ⟨(refOf q r).toArray⟩) ∧ w' = w := by
  by_cases h1 : r = 38
  · subst h1
    go_enter Try.func58, Try.ntmps58
    go_wp2
    go_ret
    exact ⟨rfl, rfl⟩
  by_cases h2 : r = 60
  · subst h2
    go_enter Try.func58, Try.ntmps58
    go_wp2
    go_ret
    exact ⟨rfl, rfl⟩
  by_cases h3 : r = 62
  · subst h3
    go_enter Try.func58, Try.ntmps58
    go_wp2
    go_ret
    exact ⟨rfl, rfl⟩
  by_cases h4 : r = 160
  · subst h4
    go_enter Try.func58, Try.ntmps58
    go_wp2
    go_ret
    exact ⟨rfl, rfl⟩
  have e1 : ((r : Int) == 38) = false := beq_eq_false_iff_ne.2 (by omega)
  have e2 : ((r : Int) == 60) = false := beq_eq_false_iff_ne.2 (by omega)
  have e3 : ((r : Int) == 62) = false := beq_eq_false_iff_ne.2 (by omega)
  have e4 : ((r : Int) == 160) = false := beq_eq_false_iff_ne.2 (by omega)
  by_cases h5 : r = 34
  · subst h5
    cases q
    · go_enter Try.func58, Try.ntmps58
      go_wp2
      go_ret
      exact ⟨rfl, rfl⟩
    · go_enter Try.func58, Try.ntmps58
      go_wp2
      go_ret
      exact ⟨rfl, rfl⟩
  have e5 : ((r : Int) == 34) = false := beq_eq_false_iff_ne.2 (by omega)
  have HR : Hid (refOf q r = []) := hide (by
    unfold refOf
    rw [if_neg h1, if_neg h2, if_neg h3, if_neg h4, if_neg (fun h => h5 h.1)])
  rw [HR.out]
  obtain ⟨z, hz⟩ : ∃ z : Int, z = (r : Int) := ⟨_, rfl⟩
  rw [← hz] at e1 e2 e3 e4 e5 ⊢
  clear hz h1 h2 h3 h4 h5 HR
  go_enter Try.func58, Try.ntmps58
  go_wp2
  go_ret
  exact ⟨rfl, rfl⟩

theorem refOf_len (q : Bool) (r : Nat) : (refOf q r).length ≤ 6 := by
  unfold refOf
  repeat' (split; · decide)
  decide

theorem toList_empty (l : List UInt8) : (⟨l.toArray⟩ : ByteArray).toList.isEmpty = l.isEmpty := by
  rw [ByteArray.toList_eq]

theorem take_more (l : List UInt8) (dn pos wd : Nat) (h : dn ≤ pos) : (l.drop dn).take (pos + wd - dn) = (l.drop dn).take (pos - dn) ++ (l.drop pos).take wd := by
  rw [show pos + wd - dn = (pos - dn) + wd by omega, List.take_add, List.drop_drop, show dn + (pos - dn) = pos by omega]

theorem strCells_ext (s : ByteArray) (a b : Nat) : Lib.strCells (s.extract a b) = Lib.byteCells (((bl s).drop a).take (b - a)) := by
  unfold Lib.strCells
  rw [Lib.extract_data]
  rfl

set_option maxHeartbeats 4000000 in
set_option maxRecDepth 100000 in
theorem escape_any (s : ByteArray) (q : Bool) (w : World) (hs : s.size ≤ 1099511627776) :
    Calls Try.prog 56 #[.string s, .bool q] w fun e w' => e = .returned (.string ⟨(esc q (bl s)).toArray⟩) ∧ Below w.heap.size w w' := by
  go_enter Try.func56, Try.ntmps56
  go_wp2
  go_loopw [6] (fun v wr => ∃ (pos dn : Nat) (acc : List UInt8), v = .int .i64 (dn : Int) ∧ dn ≤ pos ∧ pos ≤ s.size ∧ acc.length ≤ 6 * dn ∧ Lib.IsBuilderF 39 5 w.heap.size w.heap.size (Lib.byteCells acc) wr ∧ wr.heap[w.heap.size + 1]? = some (.stringIter s pos) ∧ Below w.heap.size w wr ∧ Hid (acc ++ (((bl s).drop dn).take (pos - dn) ++ esc q ((bl s).drop pos)) = esc q (bl s))) (fun _ wr => s.size - wr.iterPos (w.heap.size + 1))
  case atStart =>
    refine ⟨0, 0, [], rfl, by omega, by omega, by simp, (Lib.IsBuilderF.of (Lib.fresh_isBuilder 39 5 w)).alloc _, ?_, ((Below.refl _ w).alloc (Nat.le_refl _) _).alloc (by simp) _, hide (by simp)⟩
    have := World.iter_heap (w.alloc (.cells #[.pointer none, .slice none 0 0] 39)) s 0
    simpa using this
  case round =>
    obtain ⟨pos, dn, acc, rfl, hdn, hp, hal, hI, hit, hbw, HA⟩ := hrel
    have hsz : w.heap.size + 1 < wr.heap.size := (Array.getElem?_eq_some_iff.1 hit).1
    by_cases hlt : pos < s.size
    · obtain ⟨r, wd, hw1, hw4, hwl, hr, hdl, hnx⟩ := next_some Try.prog wr (w.heap.size + 1) s pos hit hlt
      have hI2 := hI.iterAt hit (pos + wd)
      have hit2 := Lib.iterAt_heap wr (w.heap.size + 1) s pos (pos + wd) hit
      have hbw2 := Lib.below_iterAt hbw (k := w.heap.size + 1) (by omega) s (pos + wd)
      have hsz2 : w.heap.size ≤ (wr.iterAt (w.heap.size + 1) s (pos + wd)).heap.size := by rw [Lib.iterAt_size]; omega
      have hne := drop_ne s pos hlt
      have hstep := esc_step q _ hne
      unfold esc1 at hstep
      have hrw := refOf_width q _ hne
      have hscal := dl_scalar _ hne
      rw [hdl] at hstep hrw hscal
      simp only at hstep hrw hscal
      rw [List.drop_drop] at hstep
      have hcr := fun w => refOf_any r q hr w
      by_cases h0 : refOf q r = []
      · rw [if_pos h0] at hstep
        rw [h0] at hcr
        have HN : Hid (acc ++ (((bl s).drop dn).take (pos + wd - dn) ++ esc q ((bl s).drop (pos + wd))) = esc q (bl s)) := hide (by rw [← HA.out, hstep, take_more _ _ _ _ hdn]; simp)
        clear hstep hrw hdl hscal HA h0
        go_wp2_with fail
        refine (hcr _).mono ?_
        rintro e w1 ⟨rfl, rfl⟩
        go_wp2_with fail
        go_roundw
        case rel => exact ⟨pos + wd, dn, acc, rfl, by omega, hwl, hal, hI2, hit2, hbw2, HN⟩
        case measure =>
          simp only [World.iterPos, hit2, hit]
          omega
      · rw [if_neg h0] at hstep
        obtain ⟨hwd, _⟩ := hrw h0
        have hrl := refOf_len q r
        have HN : Hid ((acc ++ ((bl s).drop dn).take (pos - dn) ++ refOf q r) ++ (((bl s).drop (pos + wd)).take (pos + wd - (pos + wd)) ++ esc q ((bl s).drop (pos + wd))) = esc q (bl s)) := hide (by rw [← HA.out, hstep]; simp)
        have hR0 : (⟨(refOf q r).toArray⟩ : ByteArray).toList.isEmpty = false := by
          rw [toList_empty]
          cases hh : refOf q r with
          | nil => exact absurd hh h0
          | cons a b => rfl
        have hRc : Lib.strCells (⟨(refOf q r).toArray⟩ : ByteArray) = Lib.byteCells (refOf q r) := rfl
        have hRs : (⟨(refOf q r).toArray⟩ : ByteArray).size ≤ 6 := by rw [size_mk]; exact hrl
        have hen := encode_er r hscal
        have hes : (Utf8.encode (r : Int)).size = wd := by rw [hen, size_mk, hwd]
        have hXc := strCells_ext s dn pos
        have hXs : (s.extract dn pos).size = pos - dn := by simp; omega
        clear hen
        have hll : (((bl s).drop dn).take (pos - dn)).length = pos - dn := by rw [List.length_take, List.length_drop, bl_len]; omega
        generalize (⟨(refOf q r).toArray⟩ : ByteArray) = R at hcr hR0 hRc hRs
        clear hstep hrw hdl hscal HA h0 hwd hne
        go_wp2_with fail
        refine (hcr _).mono ?_
        rintro e w1 ⟨rfl, rfl⟩
        go_wp2_with fail
        refine (Try.Builder_WriteString_k w.heap.size w.heap.size _ (s.extract dn pos) _ hI2 (by rw [Lib.byteCells_length]; omega) hsz2).mono ?_
        rintro e w1 ⟨rfl, h1, b1, k1⟩
        have hit3 := k1.iter hit2 (by omega)
        rw [hXc, ← Lib.byteCells_append] at h1
        go_wp2_with fail
        refine (Try.Builder_WriteString_k w.heap.size w.heap.size _ R _ (Or.inr h1) (by rw [Lib.byteCells_length, List.length_append]; omega) (Nat.le_trans hsz2 b1.size)).mono ?_
        rintro e w2 ⟨rfl, h2, b2, k2⟩
        have hit4 := k2.iter hit3 (by omega)
        rw [hRc, ← Lib.byteCells_append] at h2
        go_wp2_with fail
        go_roundw
        case rel =>
          refine ⟨pos + wd, pos + wd, _, by first | rfl | simp, by omega, hwl, ?_, Or.inr h2, hit4, (hbw2.trans b1).trans b2, HN⟩
          rw [List.length_append, List.length_append, hll]
          omega
        case measure =>
          simp only [World.iterPos, hit4, hit]
          omega
    · have hnx : ∀ ty, (Instr.next (.pointer (some ⟨w.heap.size + 1, 0, none⟩)) true ty).run Try.prog wr = _ := fun ty => Lib.run_next_end_at wr (w.heap.size + 1) s pos ty hit hlt
      have hXc := strCells_ext s dn s.size
      have hXs : (s.extract dn s.size).size = s.size - dn := by simp
      have hsz2 : w.heap.size ≤ wr.heap.size := by omega
      go_wp2_with fail
      refine (Try.Builder_WriteString_k w.heap.size w.heap.size _ (s.extract dn s.size) _ hI (by rw [Lib.byteCells_length]; omega) hsz2).mono ?_
      rintro e w1 ⟨rfl, h1, b1, k1⟩
      rw [hXc, ← Lib.byteCells_append] at h1
      go_wp2_with fail
      refine (Try.Builder_String_any_k w.heap.size w.heap.size _ _ (Or.inr h1) (Nat.le_trans hsz2 b1.size)).mono ?_
      rintro e w2 ⟨rfl, _, b2, _⟩
      go_wp2_with fail
      go_ret
      have hps : pos = s.size := by omega
      have hacc := HA.out
      rw [drop_all s pos hlt, esc_nil, List.append_nil, hps] at hacc
      rw [hacc]
      exact ⟨rfl, (hbw.trans b1).trans b2⟩
end Go.Proofs.Ytholfdfjapgfbaa
