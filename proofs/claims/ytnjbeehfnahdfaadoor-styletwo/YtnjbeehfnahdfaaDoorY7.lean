/-
  The document's own bare and parts.
-/
import Derived.Test.YtnjbeehfnahdfaaDoorY2
import Derived.Laws.OwnMore
import Derived.Maps.AppendAt
import Derived.OwnWalk
namespace Go.Proofs.YtnjbeehfnahdfaaDoor
open Go.RowKit
open Utf1 Sty

def rdr (f : UInt8 → Bool) (l : L) : L := (l.reverse.dropWhile f).reverse
theorem rdr_cons (f : UInt8 → Bool) (b : UInt8) (t : L) : rdr f (b :: t) = if rdr f t = [] then (if f b = true then [] else [b]) else b :: rdr f t := by
  unfold rdr
  rw [List.reverse_cons, List.dropWhile_append]
  cases h : t.reverse.dropWhile f with
  | nil =>
    simp only [List.isEmpty_nil, if_true, List.reverse_nil]
    rw [List.dropWhile_cons]
    split <;> simp
  | cons x r =>
    simp
theorem rdr_snoc (f : UInt8 → Bool) (a : L) (b : UInt8) : rdr f (a ++ [b]) = if f b = true then rdr f a else a ++ [b] := by
  unfold rdr
  rw [List.reverse_append, List.reverse_singleton, List.singleton_append, List.dropWhile_cons]
  split
  · rfl
  · simp
theorem rdr_comm (f : UInt8 → Bool) : ∀ l : L, (rdr f l).dropWhile f = rdr f (l.dropWhile f)
  | [] => rfl
  | b :: t => by
    have ih := rdr_comm f t
    rw [rdr_cons, List.dropWhile_cons]
    by_cases hb : f b = true
    · rw [if_pos hb, if_pos hb]
      by_cases h : rdr f t = []
      · rw [if_pos h]
        rw [h] at ih
        exact ih
      · rw [if_neg h, List.dropWhile_cons, if_pos hb]
        exact ih
    · rw [if_neg hb, if_neg hb]
      by_cases h : rdr f t = []
      · rw [if_pos h, List.dropWhile_cons, if_neg hb, rdr_cons, if_pos h, if_neg hb]
      · rw [if_neg h, List.dropWhile_cons, if_neg hb, rdr_cons, if_neg h]
theorem trimS_comm (l : L) : Lib.trimS l cutset = rdr (cutset.contains ·) (l.dropWhile (cutset.contains ·)) := by
  rw [← rdr_comm]
  rfl
theorem cut_bln (c : UInt8) : cutset.contains c = bln c.toNat := by
  unfold bln
  by_cases h : c.toNat = 9 ∨ c.toNat = 10 ∨ c.toNat = 12 ∨ c.toNat = 13 ∨ c.toNat = 32
  · rw [decide_eq_true h]
    have e : ∀ n : Nat, n < 256 → c.toNat = n → c = UInt8.ofNat n := fun n hn hc => (u8_eq hn).2 hc
    rcases h with h | h | h | h | h
    · rw [e 9 (by decide) h]; decide
    · rw [e 10 (by decide) h]; decide
    · rw [e 12 (by decide) h]; decide
    · rw [e 13 (by decide) h]; decide
    · rw [e 32 (by decide) h]; decide
  · rw [decide_eq_false h]
    exact set_not c (fun e => h (by omega)) (fun e => h (by omega)) (fun e => h (by omega)) (fun e => h (by omega)) (fun e => h (by omega))
theorem head_split (S : ByteArray) (h : 0 < S.size) : ∃ c, (bl S)[0]? = some c ∧ bl S = c :: bl (S.extract 1 S.size) ∧ (S.extract 1 S.size).size + 1 = S.size := by
  obtain ⟨c, hc⟩ := getK S 0 h
  have e : bl (S.extract 1 S.size) = (bl S).drop 1 := by
    rw [extract_bl, List.take_of_length_le (by rw [List.length_drop, bl_len]; omega)]
  have e2 : bl S = c :: (bl S).drop 1 := by
    cases hb : bl S with
    | nil => rw [hb] at hc; simp at hc
    | cons x r => rw [hb] at hc; simp at hc; subst hc; rfl
  refine ⟨c, hc, by rw [e]; exact e2, ?_⟩
  rw [← bl_len, e, List.length_drop, bl_len]
  omega
theorem last_split (S : ByteArray) (h : 0 < S.size) : ∃ c, (bl S)[S.size - 1]? = some c ∧ bl S = bl (S.extract 0 (S.size - 1)) ++ [c] ∧ (S.extract 0 (S.size - 1)).size + 1 = S.size := by
  obtain ⟨c, hc⟩ := getK S (S.size - 1) (by omega)
  have e : bl (S.extract 0 (S.size - 1)) = (bl S).take (S.size - 1) := by
    rw [extract_bl]
    rfl
  have e2 : bl S = (bl S).take (S.size - 1) ++ [c] := by
    have h1 : (bl S).take (S.size - 1 + 1) = bl S := List.take_of_length_le (by rw [bl_len]; omega)
    rw [List.take_add_one, hc] at h1
    exact h1.symm
  refine ⟨c, hc, by rw [e]; exact e2, ?_⟩
  rw [← bl_len, e, List.length_take, bl_len]
  omega

set_option maxHeartbeats 4000000 in
theorem rbare_any (s : ByteArray) (hs : s.size ≤ 100000) (w : World) :
    Calls Tryd.prog 22 #[.string s] w fun e w' => e = .returned (.string ⟨(pl (bl s)).toArray⟩) ∧ Below w.heap.size w w' := by
  go_enter Tryd.func22, Tryd.ntmps22
  go_upto_block 0 with fail
  go_cut [0] from 3 to 12 (fun v wx => wx = w ∧ ∃ S : ByteArray, v = .string S ∧ S.size ≤ s.size ∧ Hid ((bl s).dropWhile (cutset.contains ·) = bl S))
  case first =>
    go_wp2_with fail
    go_loopg [0] s.size (fun g v wx => wx = w ∧ ∃ S : ByteArray, v = .string S ∧ S.size ≤ g ∧ S.size ≤ s.size ∧ Hid ((bl s).dropWhile (cutset.contains ·) = (bl S).dropWhile (cutset.contains ·)))
    case atStart => exact ⟨rfl, s, rfl, Nat.le_refl _, Nat.le_refl _, hide rfl⟩
    case round =>
      obtain ⟨rfl, S, rfl, hg, hS, HD⟩ := hrel
      by_cases h0 : 0 < S.size
      · obtain ⟨c, hc, hsp, hsz⟩ := head_split S h0
        have i0 : ∀ w, (Instr.index 9 (.string S) (.int .i64 (0 : Int))).run Tryd.prog w = .ok (.int .u8 (c.toNat : Int)) w := fun w => idxK hc w
        have cb := fun w => blank_any c.toNat c.toNat_lt w
        rw [← cut_bln] at cb
        have HSP := hide hsp
        generalize (c.toNat : Int) = z at i0 cb
        clear hc hsp
        cases hk : cutset.contains c with
        | true =>
          rw [hk] at cb
          have HN : Hid ((bl s).dropWhile (cutset.contains ·) = (bl (S.extract 1 S.size)).dropWhile (cutset.contains ·)) := hide (by
            rw [HD.out]
            conv => lhs; rw [HSP.out]
            rw [List.dropWhile_cons, if_pos hk])
          clear hk HD HSP
          go_wp2_with fail
          refine (cb _).mono ?_
          rintro e w1 ⟨rfl, rfl⟩
          go_wp2_with fail
          go_roundg (gk - 1)
          case measure => omega
          case rel => exact ⟨rfl, S.extract 1 S.size, rfl, by omega, by omega, HN⟩
        | false =>
          rw [hk] at cb
          have HN : Hid ((bl s).dropWhile (cutset.contains ·) = bl S) := hide (by
            rw [HD.out, HSP.out, List.dropWhile_cons, if_neg (by rw [hk]; decide)])
          clear hk HD HSP
          go_wp2_with fail
          refine (cb _).mono ?_
          rintro e w1 ⟨rfl, rfl⟩
          go_wp2_with fail
          go_meet
          exact ⟨rfl, S, rfl, hS, HN⟩
      · have HN : Hid ((bl s).dropWhile (cutset.contains ·) = bl S) := hide (by
          have : bl S = [] := List.eq_nil_of_length_eq_zero (by rw [bl_len]; omega)
          rw [HD.out, this]
          rfl)
        clear HD
        go_wp2_with fail
        go_meet
        exact ⟨rfl, S, rfl, hS, HN⟩
  case rest =>
  obtain ⟨rfl, T, rfl, hT, HT⟩ := hcut
  go_upto_block 2 with fail
  go_cut [0] from 13 to 28 (fun v wx => wx = wc ∧ ∃ S : ByteArray, v = .string S ∧ S.size ≤ s.size ∧ Hid (Lib.trimS (bl s) cutset = bl S))
  case first =>
    go_wp2_with fail
    go_loopg [0] T.size (fun g v wx => wx = wc ∧ ∃ S : ByteArray, v = .string S ∧ S.size ≤ g ∧ S.size ≤ s.size ∧ Hid (Lib.trimS (bl s) cutset = rdr (cutset.contains ·) (bl S)))
    case atStart => exact ⟨rfl, T, rfl, Nat.le_refl _, hT, hide (by rw [trimS_comm, HT.out])⟩
    case round =>
      obtain ⟨rfl, S, rfl, hg, hS, HD⟩ := hrel
      by_cases h0 : 0 < S.size
      · obtain ⟨c, hc, hsp, hsz⟩ := last_split S h0
        have i0 : ∀ w, (Instr.index 9 (.string S) (.int .i64 ((S.size : Int) - 1))).run Tryd.prog w = .ok (.int .u8 (c.toNat : Int)) w := fun w => by
          have := idxK hc w
          rw [show ((S.size - 1 : Nat) : Int) = (S.size : Int) - 1 by omega] at this
          exact this
        have cb := fun w => blank_any c.toNat c.toNat_lt w
        rw [← cut_bln] at cb
        have HSP := hide hsp
        have hto : ((S.size : Int) - 1).toNat = S.size - 1 := by omega
        generalize (c.toNat : Int) = z at i0 cb
        clear hc hsp
        cases hk : cutset.contains c with
        | true =>
          rw [hk] at cb
          have HN : Hid (Lib.trimS (bl s) cutset = rdr (cutset.contains ·) (bl (S.extract 0 (S.size - 1)))) := hide (by
            rw [HD.out]
            conv => lhs; rw [HSP.out]
            rw [rdr_snoc, if_pos hk])
          clear hk HD HSP
          go_wp2_with fail
          refine (cb _).mono ?_
          rintro e w1 ⟨rfl, rfl⟩
          go_wp2_with fail
          go_roundg (gk - 1)
          case measure => omega
          case rel => exact ⟨rfl, S.extract 0 (S.size - 1), by first | rfl | simp [hto], by omega, by omega, HN⟩
        | false =>
          rw [hk] at cb
          have HN : Hid (Lib.trimS (bl s) cutset = bl S) := hide (by
            rw [HD.out, HSP.out, rdr_snoc, if_neg (by rw [hk]; decide)])
          clear hk HD HSP
          go_wp2_with fail
          refine (cb _).mono ?_
          rintro e w1 ⟨rfl, rfl⟩
          go_wp2_with fail
          go_meet
          exact ⟨rfl, S, rfl, hS, HN⟩
      · have HN : Hid (Lib.trimS (bl s) cutset = bl S) := hide (by
          have : bl S = [] := List.eq_nil_of_length_eq_zero (by rw [bl_len]; omega)
          rw [HD.out, this]
          rfl)
        clear HD
        go_wp2_with fail
        go_meet
        exact ⟨rfl, S, rfl, hS, HN⟩
  case rest =>
  obtain ⟨rfl, S, rfl, hS, HS⟩ := hcut
  have cl := fun w => rlower_any S w (by omega)
  have HP : Hid (pl (bl s) = lower (bl S)) := hide (by unfold pl; rw [HS.out])
  go_wp2_with fail
  refine (cl _).mono ?_
  rintro e w1 ⟨rfl, hb1⟩
  go_wp2_with fail
  go_ret
  rw [HP.out]
  exact ⟨rfl, hb1⟩
end Go.Proofs.YtnjbeehfnahdfaaDoor
