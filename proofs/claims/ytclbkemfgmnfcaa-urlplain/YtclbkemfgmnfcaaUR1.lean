/-
  What the document's own Bare answers at every place.
-/
import Derived.Test.YtclbkemfgmnfcaaUH
import Derived.Deep.CutBlock
namespace Go.Proofs.Ytclbkemfgmnfcaa
open Go.RowKit
open Utf1

theorem le32 (c : UInt8) : decide ((c.toNat : Int) ≤ 32) = blk c := by
  unfold blk
  by_cases h : c.toNat ≤ 32
  · rw [decide_eq_true h, decide_eq_true (by omega)]
  · rw [decide_eq_false h, decide_eq_false (by omega)]
theorem neK (c : UInt8) (n : Nat) (hn : n < 256) : ((c.toNat : Int) != (n : Int)) = decide (c ≠ UInt8.ofNat n) := by
  by_cases h : c = UInt8.ofNat n
  · have e : (c.toNat : Int) = (n : Int) := by rw [h, toNat_ofNat hn]
    rw [decide_eq_false (fun e => e h), e]
    simp
  · have e : ¬ (c.toNat : Int) = (n : Int) := fun e => h ((u8_eq hn).2 (by omega))
    rw [decide_eq_true h]
    simpa using e
theorem beqK (c : UInt8) (n : Nat) (hn : n < 256) : ((c.toNat : Int) == (n : Int)) = decide (c = UInt8.ofNat n) := by
  by_cases h : c = UInt8.ofNat n
  · have e : (c.toNat : Int) = (n : Int) := by rw [h, toNat_ofNat hn]
    rw [decide_eq_true h, e]
    simp
  · have e : ¬ (c.toNat : Int) = (n : Int) := fun e => h ((u8_eq hn).2 (by omega))
    rw [decide_eq_false h]
    simpa using e
theorem getK (s : ByteArray) (k : Nat) (h : k < s.size) : ∃ c, (bl s)[k]? = some c := ⟨_, List.getElem?_eq_getElem (by rw [bl_len]; exact h)⟩

set_option maxHeartbeats 4000000 in
theorem rbare_any (s : ByteArray) (hs : s.size ≤ 100000) (w : World) :
    Calls Try.prog 13 #[.string s] w fun e w' => e = .returned (.string ⟨(bare (bl s)).toArray⟩) ∧ w' = w := by
  go_enter Try.func13, Try.ntmps13
  go_upto_block 0 with fail
  go_cut [3] from 7 to 18 (fun v wx => wx = w ∧ ∃ p : Nat, p ≤ s.size ∧ v = .int .i64 (p : Int) ∧ Hid (dropB (bl s) = (bl s).drop p))
  case first =>
    go_wp2_with fail
    go_loopg [3] s.size (fun g v wx => wx = w ∧ ∃ p : Nat, p + g = s.size ∧ v = .int .i64 (p : Int) ∧ Hid (dropB (bl s) = dropB ((bl s).drop p)))
    case atStart => exact ⟨rfl, 0, by omega, rfl, hide rfl⟩
    case round =>
      obtain ⟨rfl, p, hp, rfl, HD⟩ := hrel
      by_cases hlt : p < s.size
      · obtain ⟨c, hc⟩ := getK s p hlt
        have i0 := fun w => idxK hc w
        have hle := le32 c
        have hb := c.toNat_lt
        have HC := hide hc
        generalize (c.toNat : Int) = z at i0 hle
        clear hc hb
        cases hbk : blk c with
        | true =>
          rw [hbk] at hle
          have HN : Hid (dropB (bl s) = dropB ((bl s).drop (p + 1))) := hide (HD.out.trans (dropB_step HC.out hbk))
          clear hbk HD HC
          go_wp2_with fail
          go_roundg (gk - 1)
          case measure => omega
          case rel => exact ⟨rfl, p + 1, by omega, by first | rfl | simp, HN⟩
        | false =>
          rw [hbk] at hle
          have HN : Hid (dropB (bl s) = (bl s).drop p) := hide (HD.out.trans (dropB_stop HC.out hbk))
          clear hbk HD HC
          go_wp2_with fail
          go_meet
          exact ⟨rfl, p, by omega, rfl, HN⟩
      · have HN : Hid (dropB (bl s) = (bl s).drop p) := hide (by rw [HD.out, drop_all s p hlt]; rfl)
        clear HD
        go_wp2_with fail
        go_meet
        exact ⟨rfl, p, by omega, rfl, HN⟩
  case rest =>
  obtain ⟨rfl, p, hp, rfl, HP⟩ := hcut
  go_upto_block 2 with fail
  go_cut [4] from 21 to 32 (fun v wx => wx = wc ∧ ∃ q : Nat, p ≤ q ∧ q ≤ s.size ∧ v = .int .i64 (q : Int) ∧ Hid (trim (bl s) = ((bl s).take q).drop p))
  case first =>
    go_wp2_with fail
    go_loopg [4] (s.size - p) (fun g v wx => wx = wc ∧ ∃ q : Nat, q ≤ p + g ∧ p + g ≤ q ∧ q ≤ s.size ∧ v = .int .i64 (q : Int) ∧ Hid (dropE ((bl s).drop p) = dropE (((bl s).take q).drop p)))
    case atStart => exact ⟨rfl, s.size, by omega, by omega, by omega, rfl, hide (by rw [List.take_of_length_le (by rw [bl_len]; exact Nat.le_refl _)])⟩
    case round =>
      obtain ⟨rfl, q, hq, hq2, hqs, rfl, HD⟩ := hrel
      by_cases hlt : p < q
      · obtain ⟨k, rfl⟩ : ∃ k, q = k + 1 := ⟨q - 1, by omega⟩
        obtain ⟨c, hc⟩ := getK s k (by omega)
        have i0 := fun w => idxK hc w
        have hle := le32 c
        have HC := hide hc
        generalize (c.toNat : Int) = z at i0 hle
        clear hc
        cases hbk : blk c with
        | true =>
          rw [hbk] at hle
          have HN : Hid (dropE ((bl s).drop p) = dropE (((bl s).take k).drop p)) := hide (HD.out.trans (dropE_step (by omega) HC.out hbk))
          clear hbk HD HC
          go_wp2_with fail
          go_roundg (gk - 1)
          case measure => omega
          case rel => exact ⟨rfl, k, by omega, by omega, by omega, by first | rfl | simp, HN⟩
        | false =>
          rw [hbk] at hle
          have HN : Hid (trim (bl s) = ((bl s).take (k + 1)).drop p) := hide (trim_seg HP.out (HD.out.trans (dropE_stop (by omega) HC.out hbk)))
          clear hbk HD HC
          go_wp2_with fail
          go_meet
          exact ⟨rfl, k + 1, by omega, by omega, rfl, HN⟩
      · have HN : Hid (trim (bl s) = ((bl s).take q).drop p) := hide (trim_seg HP.out (by
          have e : ((bl s).take q).drop p = [] := by
            rw [List.drop_eq_nil_iff, List.length_take]
            omega
          rw [HD.out, e]
          rfl))
        clear HD
        go_wp2_with fail
        go_meet
        exact ⟨rfl, q, by omega, by omega, rfl, HN⟩
  case rest =>
  obtain ⟨rfl, q, hpq, hqs, rfl, HT⟩ := hcut
  go_wp2_with fail
  go_loopg [5, 6] (q - p) (fun g va vi wx => wx = wc ∧ ∃ (j : Nat) (acc : ByteArray), j + g = q ∧ va = .string acc ∧ vi = .int .i64 (j : Int) ∧ acc.size ≤ j ∧ Hid (bl acc ++ (((bl s).take q).drop j).filter kept = bare (bl s)))
  case atStart => exact ⟨rfl, p, ⟨#[]⟩, by omega, rfl, rfl, Nat.zero_le _, hide (by unfold bare; rw [HT.out]; rfl)⟩
  case round =>
    obtain ⟨rfl, j, acc, hj, rfl, rfl, hal, HA⟩ := hrel
    by_cases hlt : j < q
    · obtain ⟨c, hc⟩ := getK s j (by omega)
      have i0 := fun w => idxK hc w
      have n9 : ((c.toNat : Int) != 9) = decide (c ≠ 9) := neK c 9 (by decide)
      have n10 : ((c.toNat : Int) != 10) = decide (c ≠ 10) := neK c 10 (by decide)
      have n13 : ((c.toNat : Int) != 13) = decide (c ≠ 13) := neK c 13 (by decide)
      have hone : bl (s.extract j (j + 1)) = [c] := by
        obtain ⟨hl, e⟩ := List.getElem?_eq_some_iff.1 hc
        rw [extract_bl, List.drop_eq_getElem_cons hl, e, show j + 1 - j = 1 by omega]
        rfl
      have hoz : (s.extract j (j + 1)).size = 1 := by rw [← bl_len, hone]; rfl
      have hns : (acc ++ s.extract j (j + 1)).size ≤ j + 1 := by rw [app_size]; omega
      have hseg := seg_cons hlt hc
      have HK : Hid (bl acc ++ (if kept c = true then c :: (((bl s).take q).drop (j + 1)).filter kept else (((bl s).take q).drop (j + 1)).filter kept) = bare (bl s)) := hide (by
        rw [← HA.out, hseg, filter_kept_cons])
      have HON := hide hone
      clear hseg hone hc HA
      by_cases h9 : c = 9
      · have HN : Hid (bl acc ++ (((bl s).take q).drop (j + 1)).filter kept = bare (bl s)) := hide (by rw [← HK.out, h9]; rfl)
        rw [decide_eq_false (fun e => e h9)] at n9
        generalize (c.toNat : Int) = z at i0 n9
        clear h9 n10 n13 HK HON
        go_wp2_with fail
        go_roundg (gk - 1)
        case measure => omega
        case rel => exact ⟨rfl, j + 1, acc, by omega, rfl, by first | rfl | simp, by omega, HN⟩
      · rw [decide_eq_true h9] at n9
        by_cases h10 : c = 10
        · have HN : Hid (bl acc ++ (((bl s).take q).drop (j + 1)).filter kept = bare (bl s)) := hide (by rw [← HK.out, h10]; rfl)
          rw [decide_eq_false (fun e => e h10)] at n10
          generalize (c.toNat : Int) = z at i0 n9 n10
          clear h9 h10 n13 HK HON
          go_wp2_with fail
          go_roundg (gk - 1)
          case measure => omega
          case rel => exact ⟨rfl, j + 1, acc, by omega, rfl, by first | rfl | simp, by omega, HN⟩
        · rw [decide_eq_true h10] at n10
          by_cases h13 : c = 13
          · have HN : Hid (bl acc ++ (((bl s).take q).drop (j + 1)).filter kept = bare (bl s)) := hide (by rw [← HK.out, h13]; rfl)
            rw [decide_eq_false (fun e => e h13)] at n13
            generalize (c.toNat : Int) = z at i0 n9 n10 n13
            clear h9 h10 h13 HK HON
            go_wp2_with fail
            go_roundg (gk - 1)
            case measure => omega
            case rel => exact ⟨rfl, j + 1, acc, by omega, rfl, by first | rfl | simp, by omega, HN⟩
          · rw [decide_eq_true h13] at n13
            have hk : kept c = true := by unfold kept; exact decide_eq_true ⟨h9, h10, h13⟩
            have HN : Hid (bl (acc ++ s.extract j (j + 1)) ++ (((bl s).take q).drop (j + 1)).filter kept = bare (bl s)) := hide (by
              have := HK.out
              rw [if_pos hk] at this
              rw [app_bl, HON.out, ← this]
              simp)
            generalize (c.toNat : Int) = z at i0 n9 n10 n13
            clear h9 h10 h13 hk HK HON
            go_wp2_with fail
            go_roundg (gk - 1)
            case measure => omega
            case rel => exact ⟨rfl, j + 1, _, by omega, rfl, by first | rfl | simp, hns, HN⟩
    · have HR : Hid (bl acc = bare (bl s)) := hide (by
        have e : ((bl s).take q).drop j = [] := by
          rw [List.drop_eq_nil_iff, List.length_take]
          omega
        have := HA.out
        rw [e] at this
        simpa using this)
      clear HA
      go_wp2_with fail
      go_ret
      rw [← HR.out]
      exact ⟨rfl, rfl⟩
end Go.Proofs.Ytclbkemfgmnfcaa
