/-
  What url.Bare answers at every place.
-/
import Derived.Test.YtclbkemfgmnfcaaUC
namespace Go.Proofs.Ytclbkemfgmnfcaa
open Go.RowKit
open Utf1

set_option maxHeartbeats 4000000 in
theorem bare_any : BareC := by
  intro s w hs
  go_enter Try.func12, Try.ntmps12
  go_upto_block 0 with fail
  go_cut [3] from 10 to 20 (fun v wx => wx = w ∧ ∃ p : Nat, p ≤ s.size ∧ v = .int .i64 (p : Int) ∧ Hid (dropB (bl s) = (bl s).drop p))
  case first =>
    go_wp2_with fail
    go_loopg [3] s.size (fun g v wx => wx = w ∧ ∃ p : Nat, p + g = s.size ∧ v = .int .i64 (p : Int) ∧ Hid (dropB (bl s) = dropB ((bl s).drop p)))
    case atStart => exact ⟨rfl, 0, by omega, rfl, hide rfl⟩
    case round =>
      obtain ⟨rfl, p, hp, rfl, HD⟩ := hrel
      by_cases hlt : p < s.size
      · obtain ⟨c, hc⟩ := getK s p hlt
        have i0 := fun w => idxK hc w
        have hle := le32 c
        have hb := c.toNat_lt
        have HC := hide hc
        generalize (c.toNat : Int) = z at i0 hle
        clear hc hb
        cases hbk : blk c with
        | true =>
          rw [hbk] at hle
          have HN : Hid (dropB (bl s) = dropB ((bl s).drop (p + 1))) := hide (HD.out.trans (dropB_step HC.out hbk))
          clear hbk HD HC
          go_wp2_with fail
          go_roundg (gk - 1)
          case measure => omega
          case rel => exact ⟨rfl, p + 1, by omega, by first | rfl | simp, HN⟩
        | false =>
          rw [hbk] at hle
          have HN : Hid (dropB (bl s) = (bl s).drop p) := hide (HD.out.trans (dropB_stop HC.out hbk))
          clear hbk HD HC
          go_wp2_with fail
          go_meet
          exact ⟨rfl, p, by omega, rfl, HN⟩
      · have HN : Hid (dropB (bl s) = (bl s).drop p) := hide (by rw [HD.out, drop_all s p hlt]; rfl)
        clear HD
        go_wp2_with fail
        go_meet
        exact ⟨rfl, p, by omega, rfl, HN⟩
  case rest =>
  obtain ⟨rfl, p, hp, rfl, HP⟩ := hcut
  go_upto_block 2 with fail
  go_cut [4] from 21 to 32 (fun v wx => wx = wc ∧ ∃ q : Nat, p ≤ q ∧ q ≤ s.size ∧ v = .int .i64 (q : Int) ∧ Hid (trim (bl s) = ((bl s).take q).drop p))
  case first =>
    go_wp2_with fail
    go_loopg [4] (s.size - p) (fun g v wx => wx = wc ∧ ∃ q : Nat, q ≤ p + g ∧ p + g ≤ q ∧ q ≤ s.size ∧ v = .int .i64 (q : Int) ∧ Hid (dropE ((bl s).drop p) = dropE (((bl s).take q).drop p)))
    case atStart => exact ⟨rfl, s.size, by omega, by omega, by omega, rfl, hide (by rw [List.take_of_length_le (by rw [bl_len]; exact Nat.le_refl _)])⟩
    case round =>
      obtain ⟨rfl, q, hq, hq2, hqs, rfl, HD⟩ := hrel
      by_cases hlt : p < q
      · obtain ⟨k, rfl⟩ : ∃ k, q = k + 1 := ⟨q - 1, by omega⟩
        obtain ⟨c, hc⟩ := getK s k (by omega)
        have i0 := fun w => idxK hc w
        have hle := le32 c
        have HC := hide hc
        generalize (c.toNat : Int) = z at i0 hle
        clear hc
        cases hbk : blk c with
        | true =>
          rw [hbk] at hle
          have HN : Hid (dropE ((bl s).drop p) = dropE (((bl s).take k).drop p)) := hide (HD.out.trans (dropE_step (by omega) HC.out hbk))
          clear hbk HD HC
          go_wp2_with fail
          go_roundg (gk - 1)
          case measure => omega
          case rel => exact ⟨rfl, k, by omega, by omega, by omega, by first | rfl | simp, HN⟩
        | false =>
          rw [hbk] at hle
          have HN : Hid (trim (bl s) = ((bl s).take (k + 1)).drop p) := hide (trim_seg HP.out (HD.out.trans (dropE_stop (by omega) HC.out hbk)))
          clear hbk HD HC
          go_wp2_with fail
          go_meet
          exact ⟨rfl, k + 1, by omega, by omega, rfl, HN⟩
      · have HN : Hid (trim (bl s) = ((bl s).take q).drop p) := hide (trim_seg HP.out (by
          have e : ((bl s).take q).drop p = [] := by
            rw [List.drop_eq_nil_iff, List.length_take]
            omega
          rw [HD.out, e]
          rfl))
        clear HD
        go_wp2_with fail
        go_meet
        exact ⟨rfl, q, by omega, by omega, rfl, HN⟩
  case rest =>
  obtain ⟨rfl, q, hpq, hqs, rfl, HT⟩ := hcut
  obtain ⟨w, rfl⟩ : ∃ w, w = wc := ⟨wc, rfl⟩
  go_wp2_with fail
  go_loopg [6] (q - p) (fun g vi wx => ∃ (j : Nat) (acc : List UInt8), j + g = q ∧ vi = .int .i64 (j : Int) ∧ acc.length ≤ j ∧ Lib.IsBuilderF 37 5 w.heap.size w.heap.size (Lib.byteCells acc) wx ∧ Below w.heap.size w wx ∧ Hid (acc ++ (((bl s).take q).drop j).filter kept = bare (bl s)))
  case atStart => exact ⟨p, [], by omega, rfl, Nat.zero_le _, Lib.IsBuilderF.of (Lib.fresh_isBuilder 37 5 w), (Below.refl _ w).alloc (Nat.le_refl _) _, hide (by unfold bare; rw [HT.out]; rfl)⟩
  case round =>
    obtain ⟨j, acc, hj, rfl, hal, hI, hbw, HA⟩ := hrel
    by_cases hlt : j < q
    · obtain ⟨c, hc⟩ := getK s j (by omega)
      have i0 := fun w => idxK hc w
      have n9 : ((c.toNat : Int) != 9) = decide (c ≠ 9) := neK c 9 (by decide)
      have n10 : ((c.toNat : Int) != 10) = decide (c ≠ 10) := neK c 10 (by decide)
      have n13 : ((c.toNat : Int) != 13) = decide (c ≠ 13) := neK c 13 (by decide)
      have hseg := seg_cons hlt hc
      have HK : Hid (acc ++ (if kept c = true then c :: (((bl s).take q).drop (j + 1)).filter kept else (((bl s).take q).drop (j + 1)).filter kept) = bare (bl s)) := hide (by
        rw [← HA.out, hseg, filter_kept_cons])
      clear hseg hc HA
      by_cases h9 : c = 9
      · have HN : Hid (acc ++ (((bl s).take q).drop (j + 1)).filter kept = bare (bl s)) := hide (by rw [← HK.out, h9]; rfl)
        rw [decide_eq_false (fun e => e h9)] at n9
        generalize (c.toNat : Int) = z at i0 n9
        clear h9 n10 n13 HK
        go_wp2_with fail
        go_roundg (gk - 1)
        case measure => omega
        case rel => exact ⟨j + 1, acc, by omega, by first | rfl | simp, by omega, hI, hbw, HN⟩
      · rw [decide_eq_true h9] at n9
        by_cases h10 : c = 10
        · have HN : Hid (acc ++ (((bl s).take q).drop (j + 1)).filter kept = bare (bl s)) := hide (by rw [← HK.out, h10]; rfl)
          rw [decide_eq_false (fun e => e h10)] at n10
          generalize (c.toNat : Int) = z at i0 n9 n10
          clear h9 h10 n13 HK
          go_wp2_with fail
          go_roundg (gk - 1)
          case measure => omega
          case rel => exact ⟨j + 1, acc, by omega, by first | rfl | simp, by omega, hI, hbw, HN⟩
        · rw [decide_eq_true h10] at n10
          by_cases h13 : c = 13
          · have HN : Hid (acc ++ (((bl s).take q).drop (j + 1)).filter kept = bare (bl s)) := hide (by rw [← HK.out, h13]; rfl)
            rw [decide_eq_false (fun e => e h13)] at n13
            generalize (c.toNat : Int) = z at i0 n9 n10 n13
            clear h9 h10 h13 HK
            go_wp2_with fail
            go_roundg (gk - 1)
            case measure => omega
            case rel => exact ⟨j + 1, acc, by omega, by first | rfl | simp, by omega, hI, hbw, HN⟩
          · rw [decide_eq_true h13] at n13
            have hk : kept c = true := by unfold kept; exact decide_eq_true ⟨h9, h10, h13⟩
            have HN : Hid ((acc ++ [c]) ++ (((bl s).take q).drop (j + 1)).filter kept = bare (bl s)) := hide (by
              have := HK.out
              rw [if_pos hk] at this
              rw [← this]
              simp)
            have HW := hide (Try.Builder_WriteByte_k w.heap.size w.heap.size _ (c.toNat : Int) wr hI (by rw [Lib.byteCells_length]; omega) hbw.size)
            have HCC : Hid (Lib.byteCells acc ++ [.int .u8 (c.toNat : Int)] = Lib.byteCells (acc ++ [c])) := hide (by rw [Lib.byteCells_append]; rfl)
            generalize (c.toNat : Int) = z at i0 n9 n10 n13 HW HCC
            clear h9 h10 h13 hk HK
            go_wp2_with fail
            refine HW.out.mono ?_
            rintro e W1 ⟨rfl, h1, b1, -⟩
            go_wp2_with fail
            go_roundg (gk - 1)
            case measure => omega
            case rel => exact ⟨j + 1, acc ++ [c], by omega, by first | rfl | simp, by simp; omega, Or.inr (by rw [← HCC.out]; exact h1), hbw.trans b1, HN⟩
    · have HR : Hid (acc = bare (bl s)) := hide (by
        have e : ((bl s).take q).drop j = [] := by
          rw [List.drop_eq_nil_iff, List.length_take]
          omega
        have := HA.out
        rw [e] at this
        simpa using this)
      clear HA
      go_wp2_with fail
      refine (Try.Builder_String_any_k w.heap.size w.heap.size acc _ hI hbw.size).mono ?_
      rintro e W1 ⟨rfl, _, b1, _⟩
      go_wp2_with fail
      go_ret
      rw [← HR.out]
      exact ⟨rfl, hbw.trans b1⟩
end Go.Proofs.Ytclbkemfgmnfcaa
