/-
  pass, where the first byte is passed over whatever it is.
-/
import Derived.Test.YtholfdfjapgfbaaGreatDoorT1
namespace Go.Proofs.YtholfdfjapgfbaaGreatDoor
open Go.RowKit
open Utf1

theorem drop_pred (c : UInt8) (l : List UInt8) (p : Nat) (hp : 1 ≤ p) : (c :: l).drop p = l.drop (p - 1) := by
  obtain ⟨q, rfl⟩ : ∃ q, p = q + 1 := ⟨p - 1, by omega⟩
  rfl

set_option maxHeartbeats 1000000 in
theorem pass_first (s t : ByteArray) (c0 : UInt8) (tl : List UInt8) (K A O B : Nat) (w : World) (hs : s.size ≤ 1099511627776) (hc0 : bl s = c0 :: tl) (hA : w.heap[A]? = some (.cells #[.bool false] 4 (0, 0))) (hO : w.cell? ⟨O, 0, none⟩ = some (.func (.func 62) #[] #[.pointer (some ⟨B, 0, none⟩)])) (h : w.cell? ⟨B, 0, none⟩ = some (.string t)) (hK : K ≤ A) (hAO : O ≠ A) (hAB : B ≠ A) :
    Calls Tryz.prog 44 #[.string s, .func (.func 64) #[] #[.pointer (some ⟨A, 0, none⟩), .pointer (some ⟨O, 0, none⟩)]] w fun e w' => e = .returned (.tuple #[.string ⟨(c0 :: tl.takeWhile (fun x => !(bl t).contains x)).toArray⟩, .string ⟨(tl.dropWhile (fun x => !(bl t).contains x)).toArray⟩]) ∧ Below K w w' := by
  obtain ⟨P, hP⟩ : ∃ P : UInt8 → Bool, P = fun x => !(bl t).contains x := ⟨_, rfl⟩
  rw [← hP]
  have HP := hide hP
  have hl := bl_len s
  have HL : tl.length + 1 = s.size := by rw [← hl, hc0]; rfl
  have HC := hide hc0
  clear hP hc0
  go_enter Tryz.func44, Tryz.ntmps44
  go_wp2
  go_loopg [6] s.size (fun g v wr => ∃ p : Nat, p + g = s.size ∧ v = .int .i64 (p : Int) ∧ wr.heap[A]? = some (.cells #[.bool (decide (1 ≤ p))] 4 (0, 0)) ∧ wr.cell? ⟨O, 0, none⟩ = some (.func (.func 62) #[] #[.pointer (some ⟨B, 0, none⟩)]) ∧ wr.cell? ⟨B, 0, none⟩ = some (.string t) ∧ Below K w wr ∧ Hid (1 ≤ p → tl.takeWhile P = tl.take (p - 1) ++ (tl.drop (p - 1)).takeWhile P))
  case atStart => exact ⟨0, by omega, rfl, hA, hO, h, Below.refl _ _, hide (by intro h; omega)⟩
  case round =>
    obtain ⟨p, hpg, rfl, hAr, hOr, hBr, hbw, HT⟩ := hrel
    clear hA hO h
    have HF : 1 ≤ p → tl.takeWhile P = tl.take (p - 1) → Hid ((.tuple #[.string (s.extract 0 p), .string (s.extract p s.size)] : Value) = .tuple #[.string ⟨(c0 :: tl.takeWhile P).toArray⟩, .string ⟨(tl.dropWhile P).toArray⟩]) := fun h1 h => hide (by rw [span_take _ _ _ h, h, extract_take, ext_drop, HC.out, take_first _ _ p h1, drop_pred _ _ p h1])
    by_cases hlt : p < s.size
    · have i0 : ∀ w, (Instr.index 9 (.string s) (.int .i64 (p : Int))).run Tryz.prog w = .ok (.int .u8 (atN ((bl s).drop p) 0 : Nat)) w := idx_run s p 0 hlt
      rw [atN_drop s p hlt] at i0
      have hdc := drop_cons s p hlt
      generalize (bl s)[p]'(by rw [bl_len]; exact hlt) = c at i0 hdc
      have hc := first1_any t c (decide (1 ≤ p)) A O B wr (cell_of_one hAr) (free_of_one hAr) hOr hBr
      have hPc : P c = !(bl t).contains c := by rw [HP.out]
      rw [← hPc] at hc
      have hA2 : ∀ u, (wr.setCell ⟨A, 0, none⟩ u).heap[A]? = some (.cells #[u] 4 (0, 0)) := fun u => one_setCell hAr
      have hO2 : ∀ u, (wr.setCell ⟨A, 0, none⟩ u).cell? ⟨O, 0, none⟩ = wr.cell? ⟨O, 0, none⟩ := fun u => World.cell?_of_block (Below.heap_setCell _ _ _ _ hAO)
      have hB2 : ∀ u, (wr.setCell ⟨A, 0, none⟩ u).cell? ⟨B, 0, none⟩ = wr.cell? ⟨B, 0, none⟩ := fun u => World.cell?_of_block (Below.heap_setCell _ _ _ _ hAB)
      have hd2 : 1 ≤ p → tl.drop (p - 1) = c :: (bl s).drop (p + 1) := fun h1 => by rw [← drop_pred c0 tl p h1, ← HC.out, hdc]
      by_cases hgo : p = 0 ∨ P c = true
      · have hv : (!decide (1 ≤ p) || P c) = true := by
          rcases hgo with h0 | h1
          · subst h0
            rfl
          · rw [h1]
            simp
        have HN : Hid (1 ≤ p + 1 → tl.takeWhile P = tl.take (p + 1 - 1) ++ (tl.drop (p + 1 - 1)).takeWhile P) := hide (by
          intro _
          by_cases h1 : 1 ≤ p
          · have hP1 : P c = true := by
              rcases hgo with h0 | h2
              · omega
              · exact h2
            have := span_step tl P (p - 1) c _ (hd2 h1) hP1 (HT.out h1)
            rw [show p - 1 + 1 = p + 1 - 1 by omega] at this
            exact this
          · have h0 : p = 0 := by omega
            subst h0
            simp)
        rw [hv] at hc
        obtain ⟨z, hz⟩ : ∃ z : Int, z = (c.toNat : Int) := ⟨_, rfl⟩
        rw [← hz] at i0 hc
        have hA3 := hA2 (.bool true)
        have hO3 := (hO2 (.bool true)).trans hOr
        have hB3 := (hB2 (.bool true)).trans hBr
        have hb3 := hbw.setCell (p := ⟨A, 0, none⟩) hK (.bool true)
        clear hz hdc HF HT hPc hd2 hgo hv hA2 hO2 hB2
        go_wp2_with fail
        refine hc.mono ?_
        rintro e w1 ⟨rfl, rfl⟩
        go_wp2_with fail
        go_roundg (gk - 1)
        case measure => omega
        case rel => exact ⟨p + 1, by omega, by first | rfl | simp, by rw [hA3]; simp, hO3, hB3, hb3, HN⟩
      · have h1 : 1 ≤ p := by omega
        have hPf : P c = false := by
          cases hh : P c with
          | false => rfl
          | true => exact absurd (Or.inr hh) hgo
        have HR := HF h1 (by rw [HT.out h1, hd2 h1, List.takeWhile_cons, if_neg (by simp [hPf])]; simp)
        have hv : (!decide (1 ≤ p) || P c) = false := by
          rw [hPf]
          simp [h1]
        rw [hv] at hc
        obtain ⟨z, hz⟩ : ∃ z : Int, z = (c.toNat : Int) := ⟨_, rfl⟩
        rw [← hz] at i0 hc
        have hb3 := hbw.setCell (p := ⟨A, 0, none⟩) hK (.bool true)
        clear hz hdc HF HT hPc hd2 hgo hv hA2 hO2 hB2 hPf
        go_wp2_with fail
        refine hc.mono ?_
        rintro e w1 ⟨rfl, rfl⟩
        go_wp2_with fail
        go_region
        all_goals (try go_wp2)
        all_goals go_ret2
        all_goals exact ⟨congrArg Ending.returned HR.out, hb3.drew⟩
    · have h1 : 1 ≤ p := by omega
      have HR := HF h1 (by rw [HT.out h1, List.drop_of_length_le (by omega)]; simp)
      clear HF HT
      go_wp2_with fail
      go_region
      all_goals (try go_wp2)
      all_goals go_ret2
      all_goals exact ⟨congrArg Ending.returned HR.out, hbw.drew⟩
end Go.Proofs.YtholfdfjapgfbaaGreatDoor
