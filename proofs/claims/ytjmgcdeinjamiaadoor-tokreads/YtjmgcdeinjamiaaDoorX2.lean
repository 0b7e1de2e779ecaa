/-
  What the document's Named answers.
-/
import Derived.Test.YtjmgcdeinjamiaaDoorX1
namespace Go.Proofs.YtjmgcdeinjamiaaDoor.Doc
open Go.RowKit
open Utf1

def nameStrs : Array Value := (names.map fun p => Value.string ⟨p.1.toArray⟩).toArray
def nameNums : Array Value := (names.map fun p => Value.int .i64 (p.2 : Int)).toArray

set_option maxHeartbeats 4000000 in
set_option maxRecDepth 100000 in
theorem names_ref (w : World) :
    Calls Tryd.prog 81 #[] w fun e w' => e = .returned (.slice (some ⟨w.heap.size, 0, none⟩) 22 22) ∧ w' = w.alloc (.cells nameStrs 9) := by
  go_enter Tryd.func81, Tryd.ntmps81
  go_wp2
  go_ret
  exact ⟨rfl, rfl⟩
set_option maxHeartbeats 4000000 in
set_option maxRecDepth 100000 in
theorem numbers_ref (w : World) :
    Calls Tryd.prog 82 #[] w fun e w' => e = .returned (.slice (some ⟨w.heap.size, 0, none⟩) 22 22) ∧ w' = w.alloc (.cells nameNums 3) := by
  go_enter Tryd.func82, Tryd.ntmps82
  go_wp2
  go_ret
  exact ⟨rfl, rfl⟩

theorem nameStrs_at (k : Nat) (h : k < 22) : nameStrs[k]? = some (.string ⟨(names[k]'h).1.toArray⟩) := by
  unfold nameStrs
  rw [List.getElem?_toArray, List.getElem?_map, List.getElem?_eq_getElem h]
  rfl
theorem nameNums_at (k : Nat) (h : k < 22) : nameNums[k]? = some (.int .i64 ((names[k]'h).2 : Int)) := by
  unfold nameNums
  rw [List.getElem?_toArray, List.getElem?_map, List.getElem?_eq_getElem h]
  rfl

set_option maxHeartbeats 4000000 in
set_option maxRecDepth 100000 in
theorem refNamed_any (s : ByteArray) (w : World) :
    Calls Tryd.prog 75 #[.string s] w fun e w' => e = .returned (optS (named (bl s))) ∧ Below w.heap.size w w' := by
  go_enter Tryd.func75, Tryd.ntmps75
  go_wp2_with fail
  refine (names_ref _).mono ?_
  rintro e w1 ⟨rfl, rfl⟩
  have hb1 : Below w.heap.size w (w.alloc (.cells nameStrs 9)) := (Below.refl _ w).alloc (Nat.le_refl _) _
  have hcell : ∀ k (h : k < 22), (w.alloc (.cells nameStrs 9)).cell? ⟨w.heap.size, k, none⟩ = some (.string ⟨(names[k]'h).1.toArray⟩) := fun k h => by
    rw [World.cell?_alloc_mark]
    exact nameStrs_at k h
  generalize (w.alloc (.cells nameStrs 9)) = W at hb1 hcell
  go_wp2_with fail
  go_loop [5] (fun v => ∃ k : Nat, v = .int .i64 (k : Int) ∧ k ≤ 22 ∧ Hid (lookN (names.drop k) (bl s) = named (bl s))) (fun v => 22 - (intOf v).toNat)
  case atStart => exact ⟨0, rfl, by omega, hide rfl⟩
  case round =>
    obtain ⟨k, rfl, hk, HL⟩ := hrel
    by_cases hlt : k < 22
    · have hc := hcell k hlt
      have HS : Hid (lookN (names.drop k) (bl s) = if (names[k]'hlt).1 = bl s then some (names[k]'hlt).2 else lookN (names.drop (k + 1)) (bl s)) := hide (by rw [List.drop_eq_getElem_cons (show k < names.length from hlt)]; rfl)
      have hnu := nameNums_at k hlt
      have hf := names_facts _ (List.getElem_mem (h := show k < names.length from hlt))
      generalize (names[k]'hlt) = p at hc HS hnu hf
      obtain ⟨nm, ch⟩ := p
      simp only at hc HS hnu hf
      obtain ⟨nb, hnb⟩ : ∃ nb : ByteArray, nb = ⟨nm.toArray⟩ := ⟨_, rfl⟩
      rw [← hnb] at hc
      by_cases he : nb = s
      · have HR : Hid (named (bl s) = some ch) := hide (by rw [← HL.out, HS.out, if_pos (by rw [← he, hnb])])
        have hch := fun w => char_any ch (by omega) w
        have hcc : chN ch = ch := by
          unfold chN
          rw [if_neg (by omega)]
        rw [hcc] at hch
        have q1 : (s.toList == s.toList) = true := beq_same rfl
        subst he
        clear hnb HS HL hf hcell hcc
        obtain ⟨z, hz⟩ : ∃ z : Int, z = (ch : Int) := ⟨_, rfl⟩
        rw [← hz] at hnu hch
        clear hz
        go_wp2_with fail
        refine (numbers_ref _).mono ?_
        rintro e w2 ⟨rfl, rfl⟩
        have hc2 : (W.alloc (.cells nameNums 3)).cell? ⟨W.heap.size, k, none⟩ = some (.int .i64 z) := by
          rw [World.cell?_alloc_mark]
          exact hnu
        have hb2 : Below w.heap.size w (W.alloc (.cells nameNums 3)) := hb1.alloc hb1.size _
        generalize (W.alloc (.cells nameNums 3)) = W2 at hc2 hb2
        go_wp2_with fail
        refine (hch _).mono ?_
        rintro e w3 ⟨rfl, hb3⟩
        go_wp2_with fail
        go_ret2
        rw [HR.out]
        exact ⟨rfl, hb2.trans (hb3.mono hb2.size)⟩
      · have HR : Hid (lookN (names.drop (k + 1)) (bl s) = named (bl s)) := hide (by
          rw [← HL.out, HS.out, if_neg]
          intro e
          apply he
          rw [hnb, e])
        have hnd : (nb.toList == s.toList) = false := beq_ne (fun e => he (by
          cases nb; cases s
          simpa using e))
        clear hnb HS HL he hnu hf hcell
        go_wp2
        exact ⟨⟨k + 1, rfl, by omega, HR⟩, by simp [intOf]; omega⟩
    · have hk2 : k = 22 := by omega
      subst hk2
      have HR : Hid (named (bl s) = none) := hide (by rw [← HL.out]; rfl)
      clear HL hcell
      go_wp2
      go_ret2
      rw [HR.out]
      exact ⟨rfl, hb1⟩
end Go.Proofs.YtjmgcdeinjamiaaDoor.Doc
