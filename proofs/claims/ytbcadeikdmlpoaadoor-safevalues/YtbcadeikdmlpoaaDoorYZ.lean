/-
  The document's own bare and parts.
-/
import Derived.Test.YtbcadeikdmlpoaaDoorYX
import Derived.Laws.OwnMore
import Derived.Maps.AppendAt
import Derived.OwnWalk
namespace Go.Proofs.YtbcadeikdmlpoaaDoor.Sy
open Go.RowKit
open Utf1 Sty

def rdr (f : UInt8 → Bool) (l : L) : L := (l.reverse.dropWhile f).reverse
theorem rdr_cons (f : UInt8 → Bool) (b : UInt8) (t : L) : rdr f (b :: t) = if rdr f t = [] then (if f b = true then [] else [b]) else b :: rdr f t := by
  unfold rdr
  rw [List.reverse_cons, List.dropWhile_append]
  cases h : t.reverse.dropWhile f with
  | nil =>
    simp only [List.isEmpty_nil, if_true, List.reverse_nil]
    rw [List.dropWhile_cons]
    split <;> simp
  | cons x r =>
    simp
theorem rdr_snoc (f : UInt8 → Bool) (a : L) (b : UInt8) : rdr f (a ++ [b]) = if f b = true then rdr f a else a ++ [b] := by
  unfold rdr
  rw [List.reverse_append, List.reverse_singleton, List.singleton_append, List.dropWhile_cons]
  split
  · rfl
  · simp
theorem rdr_comm (f : UInt8 → Bool) : ∀ l : L, (rdr f l).dropWhile f = rdr f (l.dropWhile f)
  | [] => rfl
  | b :: t => by
    have ih := rdr_comm f t
    rw [rdr_cons, List.dropWhile_cons]
    by_cases hb : f b = true
    · rw [if_pos hb, if_pos hb]
      by_cases h : rdr f t = []
      · rw [if_pos h]
        rw [h] at ih
        exact ih
      · rw [if_neg h, List.dropWhile_cons, if_pos hb]
        exact ih
    · rw [if_neg hb, if_neg hb]
      by_cases h : rdr f t = []
      · rw [if_pos h, List.dropWhile_cons, if_neg hb, rdr_cons, if_pos h, if_neg hb]
      · rw [if_neg h, List.dropWhile_cons, if_neg hb, rdr_cons, if_neg h]
theorem trimS_comm (l : L) : Lib.trimS l cutset = rdr (cutset.contains ·) (l.dropWhile (cutset.contains ·)) := by
  rw [← rdr_comm]
  rfl
theorem cut_bln (c : UInt8) : cutset.contains c = bln c.toNat := by
  unfold bln
  by_cases h : c.toNat = 9 ∨ c.toNat = 10 ∨ c.toNat = 12 ∨ c.toNat = 13 ∨ c.toNat = 32
  · rw [decide_eq_true h]
    have e : ∀ n : Nat, n < 256 → c.toNat = n → c = UInt8.ofNat n := fun n hn hc => (u8_eq hn).2 hc
    rcases h with h | h | h | h | h
    · rw [e 9 (by decide) h]; decide
    · rw [e 10 (by decide) h]; decide
    · rw [e 12 (by decide) h]; decide
    · rw [e 13 (by decide) h]; decide
    · rw [e 32 (by decide) h]; decide
  · rw [decide_eq_false h]
    exact set_not c (fun e => h (by omega)) (fun e => h (by omega)) (fun e => h (by omega)) (fun e => h (by omega)) (fun e => h (by omega))
theorem head_split (S : ByteArray) (h : 0 < S.size) : ∃ c, (bl S)[0]? = some c ∧ bl S = c :: bl (S.extract 1 S.size) ∧ (S.extract 1 S.size).size + 1 = S.size := by
  obtain ⟨c, hc⟩ := getK S 0 h
  have e : bl (S.extract 1 S.size) = (bl S).drop 1 := by
    rw [extract_bl, List.take_of_length_le (by rw [List.length_drop, bl_len]; omega)]
  have e2 : bl S = c :: (bl S).drop 1 := by
    cases hb : bl S with
    | nil => rw [hb] at hc; simp at hc
    | cons x r => rw [hb] at hc; simp at hc; subst hc; rfl
  refine ⟨c, hc, by rw [e]; exact e2, ?_⟩
  rw [← bl_len, e, List.length_drop, bl_len]
  omega
theorem last_split (S : ByteArray) (h : 0 < S.size) : ∃ c, (bl S)[S.size - 1]? = some c ∧ bl S = bl (S.extract 0 (S.size - 1)) ++ [c] ∧ (S.extract 0 (S.size - 1)).size + 1 = S.size := by
  obtain ⟨c, hc⟩ := getK S (S.size - 1) (by omega)
  have e : bl (S.extract 0 (S.size - 1)) = (bl S).take (S.size - 1) := by
    rw [extract_bl]
    rfl
  have e2 : bl S = (bl S).take (S.size - 1) ++ [c] := by
    have h1 : (bl S).take (S.size - 1 + 1) = bl S := List.take_of_length_le (by rw [bl_len]; omega)
    rw [List.take_add_one, hc] at h1
    exact h1.symm
  refine ⟨c, hc, by rw [e]; exact e2, ?_⟩
  rw [← bl_len, e, List.length_take, bl_len]
  omega

set_option maxHeartbeats 4000000 in
theorem rbare_any (s : ByteArray) (hs : s.size ≤ 100000) (w : World) :
    Calls Tryd.prog 56 #[.string s] w fun e w' => e = .returned (.string ⟨(pl (bl s)).toArray⟩) ∧ Below w.heap.size w w' := by
  go_enter Tryd.func56, Tryd.ntmps56
  go_upto_block 0 with fail
  go_cut [0] from 3 to 12 (fun v wx => wx = w ∧ ∃ S : ByteArray, v = .string S ∧ S.size ≤ s.size ∧ Hid ((bl s).dropWhile (cutset.contains ·) = bl S))
  case first =>
    go_wp2_with fail
    go_loopg [0] s.size (fun g v wx => wx = w ∧ ∃ S : ByteArray, v = .string S ∧ S.size ≤ g ∧ S.size ≤ s.size ∧ Hid ((bl s).dropWhile (cutset.contains ·) = (bl S).dropWhile (cutset.contains ·)))
    case atStart => exact ⟨rfl, s, rfl, Nat.le_refl _, Nat.le_refl _, hide rfl⟩
    case round =>
      obtain ⟨rfl, S, rfl, hg, hS, HD⟩ := hrel
      by_cases h0 : 0 < S.size
      · obtain ⟨c, hc, hsp, hsz⟩ := head_split S h0
        have i0 : ∀ w, (Instr.index 9 (.string S) (.int .i64 (0 : Int))).run Tryd.prog w = .ok (.int .u8 (c.toNat : Int)) w := fun w => idxK hc w
        have cb := fun w => blank_any c.toNat c.toNat_lt w
        rw [← cut_bln] at cb
        have HSP := hide hsp
        generalize (c.toNat : Int) = z at i0 cb
        clear hc hsp
        cases hk : cutset.contains c with
        | true =>
          rw [hk] at cb
          have HN : Hid ((bl s).dropWhile (cutset.contains ·) = (bl (S.extract 1 S.size)).dropWhile (cutset.contains ·)) := hide (by
            rw [HD.out]
            conv => lhs; rw [HSP.out]
            rw [List.dropWhile_cons, if_pos hk])
          clear hk HD HSP
          go_wp2_with fail
          refine (cb _).mono ?_
          rintro e w1 ⟨rfl, rfl⟩
          go_wp2_with fail
          go_roundg (gk - 1)
          case measure => omega
          case rel => exact ⟨rfl, S.extract 1 S.size, rfl, by omega, by omega, HN⟩
        | false =>
          rw [hk] at cb
          have HN : Hid ((bl s).dropWhile (cutset.contains ·) = bl S) := hide (by
            rw [HD.out, HSP.out, List.dropWhile_cons, if_neg (by rw [hk]; decide)])
          clear hk HD HSP
          go_wp2_with fail
          refine (cb _).mono ?_
          rintro e w1 ⟨rfl, rfl⟩
          go_wp2_with fail
          go_meet
          exact ⟨rfl, S, rfl, hS, HN⟩
      · have HN : Hid ((bl s).dropWhile (cutset.contains ·) = bl S) := hide (by
          have : bl S = [] := List.eq_nil_of_length_eq_zero (by rw [bl_len]; omega)
          rw [HD.out, this]
          rfl)
        clear HD
        go_wp2_with fail
        go_meet
        exact ⟨rfl, S, rfl, hS, HN⟩
  case rest =>
  obtain ⟨rfl, T, rfl, hT, HT⟩ := hcut
  go_upto_block 2 with fail
  go_cut [0] from 13 to 28 (fun v wx => wx = wc ∧ ∃ S : ByteArray, v = .string S ∧ S.size ≤ s.size ∧ Hid (Lib.trimS (bl s) cutset = bl S))
  case first =>
    go_wp2_with fail
    go_loopg [0] T.size (fun g v wx => wx = wc ∧ ∃ S : ByteArray, v = .string S ∧ S.size ≤ g ∧ S.size ≤ s.size ∧ Hid (Lib.trimS (bl s) cutset = rdr (cutset.contains ·) (bl S)))
    case atStart => exact ⟨rfl, T, rfl, Nat.le_refl _, hT, hide (by rw [trimS_comm, HT.out])⟩
    case round =>
      obtain ⟨rfl, S, rfl, hg, hS, HD⟩ := hrel
      by_cases h0 : 0 < S.size
      · obtain ⟨c, hc, hsp, hsz⟩ := last_split S h0
        have i0 : ∀ w, (Instr.index 9 (.string S) (.int .i64 ((S.size : Int) - 1))).run Tryd.prog w = .ok (.int .u8 (c.toNat : Int)) w := fun w => by
          have := idxK hc w
          rw [show ((S.size - 1 : Nat) : Int) = (S.size : Int) - 1 by omega] at this
          exact this
        have cb := fun w => blank_any c.toNat c.toNat_lt w
        rw [← cut_bln] at cb
        have HSP := hide hsp
        have hto : ((S.size : Int) - 1).toNat = S.size - 1 := by omega
        generalize (c.toNat : Int) = z at i0 cb
        clear hc hsp
        cases hk : cutset.contains c with
        | true =>
          rw [hk] at cb
          have HN : Hid (Lib.trimS (bl s) cutset = rdr (cutset.contains ·) (bl (S.extract 0 (S.size - 1)))) := hide (by
            rw [HD.out]
            conv => lhs; rw [HSP.out]
            rw [rdr_snoc, if_pos hk])
          clear hk HD HSP
          go_wp2_with fail
          refine (cb _).mono ?_
          rintro e w1 ⟨rfl, rfl⟩
          go_wp2_with fail
          go_roundg (gk - 1)
          case measure => omega
          case rel => exact ⟨rfl, S.extract 0 (S.size - 1), by first | rfl | simp [hto], by omega, by omega, HN⟩
        | false =>
          rw [hk] at cb
          have HN : Hid (Lib.trimS (bl s) cutset = bl S) := hide (by
            rw [HD.out, HSP.out, rdr_snoc, if_neg (by rw [hk]; decide)])
          clear hk HD HSP
          go_wp2_with fail
          refine (cb _).mono ?_
          rintro e w1 ⟨rfl, rfl⟩
          go_wp2_with fail
          go_meet
          exact ⟨rfl, S, rfl, hS, HN⟩
      · have HN : Hid (Lib.trimS (bl s) cutset = bl S) := hide (by
          have : bl S = [] := List.eq_nil_of_length_eq_zero (by rw [bl_len]; omega)
          rw [HD.out, this]
          rfl)
        clear HD
        go_wp2_with fail
        go_meet
        exact ⟨rfl, S, rfl, hS, HN⟩
  case rest =>
  obtain ⟨rfl, S, rfl, hS, HS⟩ := hcut
  have cl := fun w => rlower_any S w (by omega)
  have HP : Hid (pl (bl s) = lower (bl S)) := hide (by unfold pl; rw [HS.out])
  go_wp2_with fail
  refine (cl _).mono ?_
  rintro e w1 ⟨rfl, hb1⟩
  go_wp2_with fail
  go_ret
  rw [HP.out]
  exact ⟨rfl, hb1⟩
end Go.Proofs.YtbcadeikdmlpoaaDoor.Sy

namespace Go.Proofs.YtbcadeikdmlpoaaDoor.Sy
open Go.RowKit
open Utf1 Sty

theorem drop_segs (s : L) (f i : Nat) (hfi : f ≤ i) (hi : i < s.length) (h : s[i]? = some 59) (hn : ∀ j, f ≤ j → j < i → s[j]? ≠ some 59) : segs (s.drop f) = (s.drop f).take (i - f) :: segs (s.drop (i + 1)) := by
  have e : s.drop f = (s.drop f).take (i - f) ++ 59 :: s.drop (i + 1) := by
    conv => lhs; rw [← List.take_append_drop (i - f) (s.drop f)]
    congr 1
    rw [List.drop_drop, show f + (i - f) = i by omega, List.drop_eq_getElem_cons hi]
    congr 1
    rw [List.getElem?_eq_getElem hi] at h
    exact Option.some.inj h
  have hno : (59 : UInt8) ∉ (s.drop f).take (i - f) := by
    intro hm
    obtain ⟨j, hj⟩ := List.mem_iff_getElem?.1 hm
    rw [List.getElem?_take] at hj
    split at hj
    · rw [List.getElem?_drop] at hj
      exact hn (f + j) (by omega) (by omega) hj
    · cases hj
  conv => lhs; rw [e]
  exact segs_semi _ _ hno
theorem last_segs (s : L) (f : Nat) (hn : ∀ j, f ≤ j → j < s.length → s[j]? ≠ some 59) : segs (s.drop f) = [s.drop f] := by
  apply segs_end
  intro hm
  obtain ⟨j, hj⟩ := List.mem_iff_getElem?.1 hm
  have := (List.getElem?_eq_some_iff.1 hj).1
  rw [List.length_drop] at this
  rw [List.getElem?_drop] at hj
  exact hn (f + j) (by omega) (by omega) hj

set_option maxRecDepth 100000 in
set_option maxHeartbeats 8000000 in
theorem parts_any (s : ByteArray) (hs : s.size ≤ 100000) (w : World) :
    Calls Tryd.prog 55 #[.string s, .int .u8 59] w fun e w' => ∃ v ps, e = .returned v ∧ StrArg w' v ps ∧ ps.map bl = segs (bl s) ∧ Below w.heap.size w w' := by
  obtain ⟨i0, hi, hz0, hz1, hz2⟩ := info_parts infoStr
  go_enter Tryd.func55, Tryd.ntmps55
  go_wp2_with fail
  go_loopg [5, 6, 7] (s.size + 1) (fun g v5 v6 v7 wr => ∃ (f i n c : Nat) (p : Option Addr) (ps : List ByteArray), i + g = s.size + 1 ∧ f ≤ i ∧ n ≤ i ∧ v5 = .slice p n c ∧ v6 = .int .i64 (f : Int) ∧ v7 = .int .i64 (i : Int) ∧ Hid (n = ps.length ∧ wr.ownsRow w.heap.size 9 1 (.slice p n c) n (strV ps) ∧ Below w.heap.size w wr ∧
    ((i ≤ s.size ∧ ps.map bl ++ segs ((bl s).drop f) = segs (bl s) ∧ ∀ j, f ≤ j → j < i → (bl s)[j]? ≠ some 59) ∨ (i = s.size + 1 ∧ ps.map bl = segs (bl s)))))
  case atStart => exact ⟨0, 0, 0, 0, none, [], by omega, Nat.le_refl _, Nat.le_refl _, rfl, rfl, rfl, hide ⟨rfl, ⟨rfl, .inl ⟨rfl, rfl⟩⟩, Below.refl _ _, .inl ⟨Nat.zero_le _, rfl, fun j h1 h2 => by omega⟩⟩⟩
  case round =>
    obtain ⟨f, i, n, c, p, ps, hig, hfi, hni, rfl, rfl, rfl, HR⟩ := hrel
    by_cases hlt : i < s.size
    · obtain ⟨d, hd⟩ := getK s i hlt
      have ip := fun w => idxK hd w
      have hno : ps.map bl ++ segs ((bl s).drop f) = segs (bl s) ∧ ∀ j, f ≤ j → j < i → (bl s)[j]? ≠ some 59 := by
        rcases HR.out.2.2.2 with h | h
        · exact h.2
        · omega
      have HNO := hide hno
      have k59 : ((d.toNat : Int) == 59) = decide (d = 59) := beqK d 59 (by decide)
      have keq : ((i : Int) == (s.size : Int)) = false := beq_eq_false_iff_ne.2 (by omega)
      have HD := hide hd
      clear hno hd
      by_cases h59 : d = 59
      · rw [decide_eq_true h59] at k59
        have HSE : Hid ((ps ++ [s.extract f i]).map bl ++ segs ((bl s).drop (i + 1)) = segs (bl s)) := hide (by
          rw [← HNO.out.1, drop_segs (bl s) f i hfi (by rw [bl_len]; exact hlt) (by rw [HD.out, h59]) HNO.out.2, List.map_append, List.append_assoc]
          congr 1
          show [bl (s.extract f i)] ++ _ = _
          rw [extract_bl]
          rfl)
        generalize (d.toNat : Int) = z at ip k59
        clear h59 HNO HD
        have HOW : Hid ((wr.alloc (.cells #[.string (s.extract f i)] 9)).ownsRow w.heap.size 9 1 (.slice p n c) n (strV ps)) := hide (HR.out.2.1.alloc _)
        have HSZ : Hid (w.heap.size ≤ (wr.alloc (.cells #[.string (s.extract f i)] 9)).heap.size) := hide (by have := HR.out.2.2.1.size; simp; omega)
        go_wp2_with (at_builtin; refine wpList_append_own _ rfl _ _ 22 rfl w.heap.size 9 i0 _ 1 16 Tryd.underlying22 hi hz0 hz1 hz2 rfl (by decide) (.slice p n c) n (strV ps) rfl HOW.out ⟨wr.heap.size, 0, none⟩ 1 1 [.string (s.extract f i)] rfl rfl (one_new _ _ _) (by simp [Value.oneCell']) (by unfold maxLen; omega) (by omega) HSZ.out ?_)
        intro u' w3 hown3 hg3 _
        obtain ⟨p', c', rfl, -⟩ := own_shape hown3
        have HR3 : Hid (n + 1 = (ps ++ [s.extract f i]).length ∧ w3.ownsRow w.heap.size 9 1 (.slice p' (n + 1) c') (n + 1) (strV (ps ++ [s.extract f i])) ∧ Below w.heap.size w w3) := hide ⟨by rw [List.length_append, ← HR.out.1]; rfl, by rw [strV_app]; exact hown3, (HR.out.2.2.1.alloc HR.out.2.2.1.size _).grown hg3 (by have := HR.out.2.2.1.size; simp; omega) (fun k hk => by
          have := HR.out.2.1
          rcases this.2 with ⟨e, _⟩ | ⟨g, cap, cur, e, hg, _⟩
          · rw [e] at hk; simp [Value.ownBlock] at hk
          · rw [e] at hk; simp only [Value.ownBlock, Option.some.injEq] at hk; omega)⟩
        clear hown3 hg3 HOW HSZ HR
        go_wp2_with fail
        go_roundg (gk - 1)
        case measure => omega
        case rel => exact ⟨i + 1, i + 1, n + 1, c', p', ps ++ [s.extract f i], by omega, Nat.le_refl _, by omega, rfl, by first | rfl | simp, by first | rfl | simp, hide ⟨HR3.out.1, HR3.out.2.1, HR3.out.2.2, .inl ⟨by omega, HSE.out, fun j h1 h2 => by omega⟩⟩⟩
      · rw [decide_eq_false h59] at k59
        have HN2 : Hid (∀ j, f ≤ j → j < i + 1 → (bl s)[j]? ≠ some 59) := hide (fun j h1 h2 => by
          by_cases e : j = i
          · subst e
            rw [HD.out]
            intro e'
            exact h59 (Option.some.inj e')
          · exact HNO.out.2 j h1 (by omega))
        have HR2 := hide (show i + 1 ≤ s.size ∧ ps.map bl ++ segs ((bl s).drop f) = segs (bl s) ∧ ∀ j, f ≤ j → j < i + 1 → (bl s)[j]? ≠ some 59 from ⟨by omega, HNO.out.1, HN2.out⟩)
        generalize (d.toNat : Int) = z at ip k59
        clear h59 HNO HD HN2
        go_wp2_with fail
        go_roundg (gk - 1)
        case measure => omega
        case rel => exact ⟨f, i + 1, n, c, p, ps, by omega, by omega, by omega, rfl, rfl, by first | rfl | simp, hide ⟨HR.out.1, HR.out.2.1, HR.out.2.2.1, .inl HR2.out⟩⟩
    · by_cases heq : i = s.size
      · subst heq
        have hno : ps.map bl ++ segs ((bl s).drop f) = segs (bl s) ∧ ∀ j, f ≤ j → j < s.size → (bl s)[j]? ≠ some 59 := by
          rcases HR.out.2.2.2 with h | h
          · exact h.2
          · omega
        have HSE : Hid ((ps ++ [s.extract f s.size]).map bl = segs (bl s)) := hide (by
          rw [← hno.1, last_segs (bl s) f (by rw [bl_len]; exact hno.2), List.map_append]
          congr 1
          show [bl (s.extract f s.size)] = _
          rw [extract_bl, List.take_of_length_le (by rw [List.length_drop, bl_len]; omega)])
        have keq : ((s.size : Int) == (s.size : Int)) = true := by simp
        clear hno hlt
        have HOW : Hid ((wr.alloc (.cells #[.string (s.extract f s.size)] 9)).ownsRow w.heap.size 9 1 (.slice p n c) n (strV ps)) := hide (HR.out.2.1.alloc _)
        have HSZ : Hid (w.heap.size ≤ (wr.alloc (.cells #[.string (s.extract f s.size)] 9)).heap.size) := hide (by have := HR.out.2.2.1.size; simp; omega)
        go_wp2_with (at_builtin; refine wpList_append_own _ rfl _ _ 22 rfl w.heap.size 9 i0 _ 1 16 Tryd.underlying22 hi hz0 hz1 hz2 rfl (by decide) (.slice p n c) n (strV ps) rfl HOW.out ⟨wr.heap.size, 0, none⟩ 1 1 [.string (s.extract f s.size)] rfl rfl (one_new _ _ _) (by simp [Value.oneCell']) (by unfold maxLen; omega) (by omega) HSZ.out ?_)
        intro u' w3 hown3 hg3 _
        obtain ⟨p', c', rfl, -⟩ := own_shape hown3
        have HR3 : Hid (n + 1 = (ps ++ [s.extract f s.size]).length ∧ w3.ownsRow w.heap.size 9 1 (.slice p' (n + 1) c') (n + 1) (strV (ps ++ [s.extract f s.size])) ∧ Below w.heap.size w w3) := hide ⟨by rw [List.length_append, ← HR.out.1]; rfl, by rw [strV_app]; exact hown3, (HR.out.2.2.1.alloc HR.out.2.2.1.size _).grown hg3 (by have := HR.out.2.2.1.size; simp; omega) (fun k hk => by
          have := HR.out.2.1
          rcases this.2 with ⟨e, _⟩ | ⟨g, cap, cur, e, hg, _⟩
          · rw [e] at hk; simp [Value.ownBlock] at hk
          · rw [e] at hk; simp only [Value.ownBlock, Option.some.injEq] at hk; omega)⟩
        clear hown3 hg3 HOW HSZ HR
        go_wp2_with fail
        go_roundg (gk - 1)
        case measure => omega
        case rel => exact ⟨s.size + 1, s.size + 1, n + 1, c', p', ps ++ [s.extract f s.size], by omega, Nat.le_refl _, by omega, rfl, by first | rfl | simp, by first | rfl | simp, hide ⟨HR3.out.1, HR3.out.2.1, HR3.out.2.2, .inr ⟨rfl, HSE.out⟩⟩⟩
      · have HE : Hid (StrArg wr (.slice p n c) ps ∧ ps.map bl = segs (bl s) ∧ Below w.heap.size w wr) := hide (by
          refine ⟨?_, ?_, HR.out.2.2.1⟩
          · have h1 := HR.out.2.1
            exact own_arg (B := w.heap.size) (by rw [← HR.out.1]; exact h1)
          · rcases HR.out.2.2.2 with h | h
            · omega
            · exact h.2)
        have hle : ¬ i ≤ s.size := by omega
        clear HR
        go_wp2_with fail
        go_ret
        exact ⟨_, ps, rfl, HE.out⟩
end Go.Proofs.YtbcadeikdmlpoaaDoor.Sy

namespace Go.Proofs.YtbcadeikdmlpoaaDoor.Sy
open Go.RowKit
open Utf1 Sty

theorem bel2' {w w1 w2 : World} (h1 : Below w.heap.size w w1) (h2 : Below w1.heap.size w1 w2) : Below w.heap.size w w2 := h1.trans (h2.mono h1.size)
theorem grown_of {w w' : World} (hb : Below w.heap.size w w') : w.grownBy w' none := ⟨hb.os, hb.tape, hb.output, hb.size, fun k hk _ => hb.block k hk⟩
def nmB (st : List NV) : List ByteArray := st.map fun x => ⟨x.1.toArray⟩
def vlB (st : List NV) : List ByteArray := st.map fun x => ⟨x.2.toArray⟩
theorem nmB_len (st : List NV) : (nmB st).length = st.length := List.length_map ..
theorem vlB_len (st : List NV) : (vlB st).length = st.length := List.length_map ..
/-- Names and values that were met, in two rows. -/
structure Two (B : Nat) (vn vv : Value) (st : List NV) (w : World) : Prop where
  rn : w.ownsRow B 9 1 vn st.length (strV (nmB st))
  rv : w.ownsRow B 9 1 vv st.length (strV (vlB st))
  ne : vn.ownBlock = none ∨ vn.ownBlock ≠ vv.ownBlock
theorem Two.keep {B : Nat} {vn vv : Value} {st : List NV} {w w' : World} (h : Two B vn vv st w) (hb : Below w.heap.size w w') : Two B vn vv st w' :=
  ⟨h.rn.kept (row := none) (grown_of hb) (Classical.em _), h.rv.kept (row := none) (grown_of hb) (Classical.em _), h.ne⟩
theorem two_push1 {B : Nat} {vn vn' vv : Value} {st : List NV} {w w2 : World} {tmp : Obj} (h : Two B vn vv st w) (hB : B ≤ w.heap.size) (hg : (w.alloc tmp).grownBy w2 vn.ownBlock) (hloc : vn'.ownBlock = vn.ownBlock ∨ vn'.ownBlock = some (w.heap.size + 1)) :
    w2.ownsRow B 9 1 vv st.length (strV (vlB st)) ∧ (vn'.ownBlock = none ∨ vn'.ownBlock ≠ vv.ownBlock) ∧ Below B w w2 := by
  refine ⟨(h.rv.alloc tmp).kept hg ?_, ?_, ?_⟩
  · rcases h.ne with e | e
    · rw [e]; exact Classical.em _
    · exact .inr fun e' => e e'.symm
  · rcases hloc with e | e
    · rw [e]; exact h.ne
    · right
      rw [e]
      intro e'
      have := (own_block h.rv e'.symm).2
      omega
  · exact ((Below.refl B w).alloc hB tmp).grown hg (by simp; omega) (fun k hk => (own_block h.rn hk).1)
theorem two_push2 {B : Nat} {vn' vv vv' : Value} {st : List NV} {w2 w4 : World} {tmp : Obj} (x : NV) (hn : w2.ownsRow B 9 1 vn' (st.length + 1) (strV (nmB st) ++ [.string ⟨x.1.toArray⟩])) (hv : w2.ownsRow B 9 1 vv st.length (strV (vlB st))) (hne : vn'.ownBlock = none ∨ vn'.ownBlock ≠ vv.ownBlock) (hB : B ≤ w2.heap.size)
    (hown : w4.ownsRow B 9 1 vv' (st.length + 1) (strV (vlB st) ++ [.string ⟨x.2.toArray⟩])) (hg : (w2.alloc tmp).grownBy w4 vv.ownBlock) (hloc : vv'.ownBlock = vv.ownBlock ∨ vv'.ownBlock = some (w2.heap.size + 1)) :
    Two B vn' vv' (st ++ [x]) w4 ∧ Below B w2 w4 := by
  refine ⟨⟨?_, ?_, ?_⟩, ?_⟩
  · have := (hn.alloc tmp).kept hg hne
    unfold nmB at this ⊢
    rw [List.map_append, strV_app, List.length_append]
    exact this
  · unfold vlB at hown ⊢
    rw [List.map_append, strV_app, List.length_append]
    exact hown
  · rcases hloc with e | e
    · rw [e]; exact hne
    · rcases hne with h0 | _
      · exact .inl h0
      · right
        rw [e]
        intro e'
        have := (own_block hn e').2
        omega
  · exact ((Below.refl B w2).alloc hB tmp).grown hg (by simp; omega) (fun k hk => (own_block hv hk).1)

def stK (props : List L) (ps : List L) (i : Nat) : List NV := ((ps.take i).filterMap pp).filter (keep props)
theorem stK_all (props : List L) (s : L) : stK props (segs s) (segs s).length = stay props s := by
  unfold stK stay prts
  rw [List.take_length]
theorem stK_step (props : List L) (ps : List L) (i : Nat) (p : L) (h : ps[i]? = some p) : stK props ps (i + 1) = stK props ps i ++ (pp p).toList.filter (keep props) := by
  unfold stK
  rw [List.take_add_one, h, List.filterMap_append, List.filter_append]
  cases hp : pp p with
  | none => simp [hp]
  | some x => simp [hp]
theorem stK_len (props : List L) (ps : List L) (i : Nat) : (stK props ps i).length ≤ i := by
  unfold stK
  refine Nat.le_trans (List.length_filter_le _ _) (Nat.le_trans (List.length_filterMap_le _ _) ?_)
  rw [List.length_take]
  omega
theorem seg_len (s p : L) (h : p ∈ segs s) : p.length ≤ s.length := by
  have h1 := segs_len s
  have h2 : p.length + 1 ≤ ((segs s).map fun p => p.length + 1).sum := by
    clear h1
    generalize segs s = l at h
    induction l with
    | nil => cases h
    | cons x r ih =>
      rcases List.mem_cons.1 h with h | h
      · subst h; simp
      · have := ih h; simp; omega
  omega
theorem segs_count (s : L) : (segs s).length ≤ s.length + 1 := by
  have h1 := segs_len s
  have h2 : ∀ l : List L, l.length ≤ (l.map fun p => p.length + 1).sum := by
    intro l
    induction l with
    | nil => simp
    | cons x r ih => simp; omega
  have := h2 (segs s)
  omega
end Go.Proofs.YtbcadeikdmlpoaaDoor.Sy

namespace Go.Proofs.YtbcadeikdmlpoaaDoor.Sy
open Go.RowKit
open Utf1 Sty

set_option maxRecDepth 100000 in
set_option maxHeartbeats 16000000 in
theorem rfilter_any (s : ByteArray) (v : Value) (ss : List ByteArray) (hs : s.size ≤ 90000) (hl : ss.length ≤ 100000) (w : World) (hv : StrArg w v ss) :
    Calls Tryd.prog 22 #[.string s, v] w fun e w' => e = .returned (.string ⟨(filt (ss.map bl) (bl s)).toArray⟩) ∧ Below w.heap.size w w' := by
  obtain ⟨i0, hi, hz0, hz1, hz2⟩ := info_parts infoStr
  have CP := hide (fun w => parts_any s (by omega) w)
  have HV := hide hv
  obtain ⟨p, cap, rfl, -, -⟩ := hv
  obtain ⟨M, hM⟩ : ∃ M, M = ss.length := ⟨_, rfl⟩
  rw [← hM] at hl ⊢
  have HM := hide hM
  rw [← hM] at HV
  clear hM
  obtain ⟨R, hR⟩ : ∃ R : ByteArray, R = ⟨(filt (ss.map bl) (bl s)).toArray⟩ := ⟨_, rfl⟩
  rw [← hR]
  have HRES := hide hR
  clear hR
  go_enter Tryd.func22, Tryd.ntmps22
  go_wp2_with fail
  refine (CP.out _).mono ?_
  rintro e w1 ⟨pv, ps, rfl, hpv, hps, hb1⟩
  have HPV := hide hpv
  obtain ⟨pp0, pcap, rfl, -, -⟩ := hpv
  have HPS := hide hps
  have HB1 := hide hb1
  have hpl : ps.length ≤ 90001 := by
    have h1 := segs_count (bl s)
    rw [← hps, List.length_map, bl_len] at h1
    omega
  obtain ⟨N, hN⟩ : ∃ N, N = ps.length := ⟨_, rfl⟩
  rw [← hN] at hpl HPV ⊢
  have HN := hide hN
  clear hN hps hb1 CP
  go_wp2_with fail
  go_loopg [5, 6, 8] N (fun g v5 v6 v8 wr => ∃ (i n c1 c2 : Nat) (p1 p2 : Option Addr), i + g = N ∧ n ≤ i ∧ v5 = .slice p1 n c1 ∧ v6 = .slice p2 n c2 ∧ v8 = .int .i64 (i : Int) ∧ Hid (n = (stK (ss.map bl) (segs (bl s)) i).length ∧ Two w1.heap.size (.slice p1 n c1) (.slice p2 n c2) (stK (ss.map bl) (segs (bl s)) i) wr ∧ Below w1.heap.size w1 wr))
  case atStart => exact ⟨0, 0, 0, 0, none, none, by omega, Nat.le_refl _, rfl, rfl, rfl, hide ⟨rfl, ⟨⟨rfl, .inl ⟨rfl, rfl⟩⟩, ⟨rfl, .inl ⟨rfl, rfl⟩⟩, .inl rfl⟩, Below.refl _ _⟩⟩
  case round =>
    obtain ⟨i, n, c1, c2, p1, p2, hig, hni, rfl, rfl, rfl, HR⟩ := hrel
    by_cases hlt : i < N
    · obtain ⟨Y, hY⟩ : ∃ Y, ps[i]? = some Y := ⟨_, List.getElem?_eq_getElem (by rw [← HN.out]; exact hlt)⟩
      have hYs : (segs (bl s))[i]? = some (bl Y) := by rw [← HPS.out, List.getElem?_map, hY]; rfl
      have hYl : Y.size ≤ 90000 := by
        have := seg_len (bl s) (bl Y) (List.mem_of_getElem? hYs)
        rw [bl_len, bl_len] at this
        omega
      have HST := hide (stK_step (ss.map bl) (segs (bl s)) i (bl Y) hYs)
      obtain ⟨pb, poff, rfl, x0⟩ : ∃ b off, pp0 = some ⟨b, off, none⟩ ∧ w1.cell? ⟨b, off + i, none⟩ = some (.string Y) := by
        obtain ⟨p', cap', e, -, hc⟩ := HPV.out
        injection e with e1 e2 e3
        obtain ⟨b, off, e4, h⟩ := hc i Y hY
        exact ⟨b, off, e1.trans e4, h⟩
      have X0 : Hid (∀ wx, Below w1.heap.size w1 wx → wx.cell? ⟨pb, poff + i, none⟩ = some (.string Y)) := hide (fun wx h => cell_keep x0 h)
      have y0 := X0.out wr HR.out.2.2
      clear x0 hY hYs
      by_cases hcol : (58 : UInt8) ∈ bl Y
      · obtain ⟨A, V, hAV, hnA⟩ := split_ba Y 58 hcol
        have hsz : Y.size = A.size + 1 + V.size := by
          have := congrArg List.length hAV
          rw [bl_len, List.length_append, List.length_cons, bl_len, bl_len] at this
          omega
        have HAT : Hid (∀ j c, (bl Y)[j]? = some c → (j < A.size → c ≠ 58) ∧ (j = A.size → c = 58)) := hide (fun j c h => by
          rw [hAV] at h
          constructor
          · intro hj
            rw [List.getElem?_append_left (by rw [bl_len]; exact hj)] at h
            intro e
            exact hnA (by rw [← e]; exact List.mem_of_getElem? h)
          · rintro rfl
            rw [List.getElem?_append_right (by rw [bl_len]; exact Nat.le_refl _), bl_len, Nat.sub_self] at h
            simp at h
            exact h.symm)
        have HEA : Hid (Y.extract 0 A.size = A) := hide (by
          apply ba_ext
          rw [extract_bl, hAV]
          have : A.size = (bl A).length := (bl_len A).symm
          rw [this]
          simp)
        have HEV : Hid (Y.extract (A.size + 1) Y.size = V) := hide (by
          apply ba_ext
          rw [extract_bl, hAV, List.drop_append, bl_len, List.drop_eq_nil_of_le (by rw [bl_len]; omega), show A.size + 1 - A.size = 1 by omega]
          simp
          rw [List.take_of_length_le (by rw [bl_len]; omega)])
        have HST2 : Hid (stK (ss.map bl) (segs (bl s)) (i + 1) = stK (ss.map bl) (segs (bl s)) i ++ [(pl (bl A), pl (bl V))].filter (keep (ss.map bl))) := hide (by rw [HST.out, hAV, pp_some _ _ hnA])
        have CA := hide (fun w => rbare_any A (by omega) w)
        have CV := hide (fun w => rbare_any V (by omega) w)
        have HPL : Hid ((⟨(pl (bl A)).toArray⟩ : ByteArray).size ≤ 90000 ∧ (⟨(pl (bl V)).toArray⟩ : ByteArray).size ≤ 90000) := hide (by
          have h1 := pl_len (bl A)
          have h2 := pl_len (bl V)
          rw [bl_len] at h1 h2
          rw [size_mk, size_mk]
          omega)
        clear hAV hnA hcol HST
        have hAY : A.size < Y.size := by omega
        have HSZ := hide hsz
        clear hsz
        go_wp2_with fail
        go_loopg [9] A.size (fun g2 v9 wx => wx = wr ∧ ∃ k : Nat, k + g2 = A.size ∧ v9 = .int .i64 (k : Int))
        case atStart => exact ⟨rfl, 0, by omega, rfl⟩
        case round =>
          obtain ⟨rfl, k, hk, rfl⟩ := hrel
          obtain ⟨c, hc⟩ := getK Y k (by omega)
          have ik := fun w => idxK hc w
          have k58 : ((c.toNat : Int) != 58) = decide (c ≠ 58) := by
            by_cases h : c = 58
            · rw [decide_eq_false (fun e => e h), h]; rfl
            · rw [decide_eq_true h]
              have : ¬ (c.toNat : Int) = 58 := fun e => h ((u8_eq (n := 58) (by decide)).2 (by omega))
              simpa using this
          have hkk := HAT.out k c hc
          clear hc
          by_cases hka : k < A.size
          · rw [decide_eq_true (hkk.1 hka)] at k58
            generalize (c.toNat : Int) = z at ik k58
            have hkY : k < Y.size := by omega
            clear hkk
            go_wp2_with fail
            go_roundg (A.size - k - 1)
            case measure => omega
            case rel => exact ⟨rfl, k + 1, by omega, by first | rfl | simp⟩
          · have hkA : k = A.size := by omega
            subst hkA
            rw [decide_eq_false (fun e => e (hkk.2 rfl))] at k58
            generalize (c.toNat : Int) = z at ik k58
            have keq : ((A.size : Int) == (Y.size : Int)) = false := beq_eq_false_iff_ne.2 (by omega)
            have hEA := HEA.out
            have hEV := HEV.out
            clear hkk hka hk HAT
            go_wp2_with fail
            refine (CA.out _).mono ?_
            rintro e w2 ⟨rfl, hb2⟩
            have y2 := X0.out w2 (HR.out.2.2.trans (hb2.mono HR.out.2.2.size))
            have HB2 := hide hb2
            clear hb2 CA y0
            go_wp2_with fail
            refine (CV.out _).mono ?_
            rintro e w3 ⟨rfl, hb3⟩
            have HB3 := hide (bel2' HB2.out hb3)
            obtain ⟨PA, hPA⟩ : ∃ PA : ByteArray, PA = ⟨(pl (bl A)).toArray⟩ := ⟨_, rfl⟩
            obtain ⟨PV, hPV⟩ : ∃ PV : ByteArray, PV = ⟨(pl (bl V)).toArray⟩ := ⟨_, rfl⟩
            rw [← hPA, ← hPV] at HPL
            rw [← hPA, ← hPV]
            have HPA := hide hPA
            have HPV2 := hide hPV
            have HVA : Hid (StrArg w3 (.slice p M cap) ss) := hide (HV.out.below (HB1.out.trans ((HR.out.2.2.trans (HB3.out.mono HR.out.2.2.size)).mono HB1.out.size)))
            obtain ⟨st, hst⟩ : ∃ st, st = stK (ss.map bl) (segs (bl s)) i := ⟨_, rfl⟩
            have HR3 : Hid (n = st.length ∧ Two w1.heap.size (.slice p1 n c1) (.slice p2 n c2) st w3 ∧ Below w1.heap.size w1 w3) := hide ⟨by rw [hst]; exact HR.out.1, by rw [hst]; exact HR.out.2.1.keep HB3.out, HR.out.2.2.trans (HB3.out.mono HR.out.2.2.size)⟩
            have HST3 : Hid (stK (ss.map bl) (segs (bl s)) (i + 1) = st ++ [(pl (bl A), pl (bl V))].filter (keep (ss.map bl))) := hide (by rw [hst]; exact HST2.out)
            clear hb3 CV y2 hPA hPV ik k58 keq hEA hEV HEA HEV HB2 hst HR HB3 X0 HST2
            go_wp2_with fail
            go_loopg [12, 13] M (fun g3 v12 v13 wx => wx = w3 ∧ ∃ (k : Nat) (b : Bool), k + g3 = M ∧ v12 = .bool b ∧ v13 = .int .i64 (k : Int) ∧ Hid (b = decide (bl PA ∈ (ss.take k).map bl)))
            case atStart => exact ⟨rfl, 0, false, by omega, rfl, rfl, hide (by simp)⟩
            case round =>
              obtain ⟨rfl, k, b, hk, rfl, rfl, HK⟩ := hrel
              by_cases hkM : k < M
              · obtain ⟨y, hy⟩ : ∃ y, ss[k]? = some y := ⟨_, List.getElem?_eq_getElem (by rw [← HM.out]; exact hkM)⟩
                obtain ⟨qb, qoff, rfl, z0⟩ : ∃ b off, p = some ⟨b, off, none⟩ ∧ wr.cell? ⟨b, off + k, none⟩ = some (.string y) := by
                  obtain ⟨p', cap', e, -, hc⟩ := HVA.out
                  injection e with e1 e2 e3
                  obtain ⟨b, off, e4, h⟩ := hc k y hy
                  exact ⟨b, off, e1.trans e4, h⟩
                have q0 := eq_two y PA
                have HMS := hide (mem_step (X := PA) hy)
                clear hy
                cases b with
                | true =>
                  have HK2 : Hid (true = decide (bl PA ∈ (ss.take (k + 1)).map bl)) := hide (by
                    have h1 := HK.out
                    exact (decide_eq_true (HMS.out.2 (.inl (of_decide_eq_true h1.symm)))).symm)
                  clear HK HMS q0
                  go_wp2_with fail
                  go_roundg (M - k - 1)
                  case measure => omega
                  case rel => exact ⟨rfl, k + 1, true, by omega, rfl, by first | rfl | simp, HK2⟩
                | false =>
                  have hno : ¬ bl PA ∈ (ss.take k).map bl := fun h => by
                    have h1 := HK.out
                    rw [decide_eq_true h] at h1
                    cases h1
                  have HNO := hide hno
                  clear hno
                  by_cases hyP : bl y = bl PA
                  · rw [decide_eq_true hyP] at q0
                    have HK2 : Hid (true = decide (bl PA ∈ (ss.take (k + 1)).map bl)) := hide (decide_eq_true (HMS.out.2 (.inr hyP))).symm
                    clear HK HMS hyP HNO
                    go_wp2_with fail
                    go_roundg (M - k - 1)
                    case measure => omega
                    case rel => exact ⟨rfl, k + 1, true, by omega, rfl, by first | rfl | simp, HK2⟩
                  · rw [decide_eq_false hyP] at q0
                    have HK2 : Hid (false = decide (bl PA ∈ (ss.take (k + 1)).map bl)) := hide (decide_eq_false (fun h => (HMS.out.1 h).elim HNO.out hyP)).symm
                    clear HK HMS hyP HNO
                    go_wp2_with fail
                    go_roundg (M - k - 1)
                    case measure => omega
                    case rel => exact ⟨rfl, k + 1, false, by omega, rfl, by first | rfl | simp, HK2⟩
              · have HKE : Hid (keep (ss.map bl) (pl (bl A), pl (bl V)) = (b && okv (bl PV))) := hide (by
                  have h1 := HK.out
                  rw [List.take_of_length_le (by rw [← HM.out]; omega)] at h1
                  unfold keep
                  rw [h1, HPA.out, HPV2.out])
                clear HK
                have HNOT : Hid (keep (ss.map bl) (pl (bl A), pl (bl V)) = false → n = (stK (ss.map bl) (segs (bl s)) (i + 1)).length ∧ Two w1.heap.size (.slice p1 n c1) (.slice p2 n c2) (stK (ss.map bl) (segs (bl s)) (i + 1)) wr ∧ Below w1.heap.size w1 wr) := hide (fun h => by
                  have e : stK (ss.map bl) (segs (bl s)) (i + 1) = st := by rw [HST3.out, List.filter_cons, h]; simp
                  rw [e]
                  exact HR3.out)
                cases b with
                | false =>
                  have HR4 := hide (HNOT.out (by rw [HKE.out]; rfl))
                  clear HNOT HKE HR3 HST3
                  go_wp2_with fail
                  go_roundg (N - i - 1)
                  case measure => omega
                  case rel => exact ⟨i + 1, n, c1, c2, p1, p2, by omega, by omega, rfl, rfl, by first | rfl | simp, HR4⟩
                | true =>
                  have cv := fun w => rvalue_any PV (by have := HPL.out; omega) w
                  cases hov : okv (bl PV) with
                  | false =>
                    rw [hov] at cv
                    have HR4 := hide (HNOT.out (by rw [HKE.out, hov]; rfl))
                    clear HNOT HKE HR3 HST3 hov
                    go_wp2_with fail
                    refine (cv _).mono ?_
                    rintro e w4 ⟨rfl, rfl⟩
                    go_wp2_with fail
                    go_roundg (N - i - 1)
                    case measure => omega
                    case rel => exact ⟨i + 1, n, c1, c2, p1, p2, by omega, by omega, rfl, rfl, by first | rfl | simp, HR4⟩
                  | true =>
                    rw [hov] at cv
                    have HST4 : Hid (stK (ss.map bl) (segs (bl s)) (i + 1) = st ++ [(pl (bl A), pl (bl V))]) := hide (by rw [HST3.out, List.filter_cons, HKE.out, hov]; simp)
                    clear HNOT HKE HST3 hov
                    have HOW1 : Hid ((wr.alloc (.cells #[.string PA] 9)).ownsRow w1.heap.size 9 1 (.slice p1 n c1) n (strV (nmB st))) := hide (by
                      have h1 := HR3.out.2.1.rn.alloc (.cells #[.string PA] 9)
                      rw [← HR3.out.1] at h1
                      exact h1)
                    have HSZ1 : Hid (w1.heap.size ≤ (wr.alloc (.cells #[.string PA] 9)).heap.size) := hide (by have := HR3.out.2.2.size; simp; omega)
                    go_wp2_with fail
                    refine (cv _).mono ?_
                    rintro e w4 ⟨rfl, rfl⟩
                    clear cv
                    go_wp2_with (at_builtin; refine wpList_append_own_at _ rfl _ _ 22 rfl w1.heap.size 9 i0 _ 1 16 Tryd.underlying22 hi hz0 hz1 hz2 rfl (by decide) (.slice p1 n c1) n (strV (nmB st)) rfl HOW1.out ⟨w4.heap.size, 0, none⟩ 1 1 [.string PA] rfl rfl (one_new _ _ _) (by simp [Value.oneCell']) (by unfold maxLen; omega) (by omega) HSZ1.out ?_)
                    intro u1 w5 hown5 hg5 _ hloc5
                    obtain ⟨p1', c1', rfl, -⟩ := own_shape hown5
                    have HP1 := hide (two_push1 (vn' := .slice p1' (n + 1) c1') HR3.out.2.1 HR3.out.2.2.size hg5 hloc5)
                    have HO5 := hide hown5
                    have HSZ2 : Hid (w1.heap.size ≤ w5.heap.size) := hide (by have h1 := HP1.out.2.2.size; have h2 := HR3.out.2.2.size; omega)
                    have HOW2 : Hid ((w5.alloc (.cells #[.string PV] 9)).ownsRow w1.heap.size 9 1 (.slice p2 n c2) n (strV (vlB st))) := hide (by
                      have h1 := HP1.out.1.alloc (.cells #[.string PV] 9)
                      rw [← HR3.out.1] at h1
                      exact h1)
                    have HSZ3 : Hid (w1.heap.size ≤ (w5.alloc (.cells #[.string PV] 9)).heap.size) := hide (by have := HSZ2.out; simp; omega)
                    clear hown5 hg5 hloc5 HOW1 HSZ1
                    go_wp2_with (at_builtin; refine wpList_append_own_at _ rfl _ _ 22 rfl w1.heap.size 9 i0 _ 1 16 Tryd.underlying22 hi hz0 hz1 hz2 rfl (by decide) (.slice p2 n c2) n (strV (vlB st)) rfl HOW2.out ⟨w5.heap.size, 0, none⟩ 1 1 [.string PV] rfl rfl (one_new _ _ _) (by simp [Value.oneCell']) (by unfold maxLen; omega) (by omega) HSZ3.out ?_)
                    intro u2 w6 hown6 hg6 _ hloc6
                    obtain ⟨p2', c2', rfl, -⟩ := own_shape hown6
                    have HR4 : Hid (n + 1 = (stK (ss.map bl) (segs (bl s)) (i + 1)).length ∧ Two w1.heap.size (.slice p1' (n + 1) c1') (.slice p2' (n + 1) c2') (stK (ss.map bl) (segs (bl s)) (i + 1)) w6 ∧ Below w1.heap.size w1 w6) := hide (by
                      rw [HST4.out]
                      have ho5 := HO5.out
                      have ho6 := hown6
                      have e := HR3.out.1
                      rw [HPA.out] at ho5
                      rw [HPV2.out] at ho6
                      obtain ⟨h1, h2⟩ := two_push2 (vn' := .slice p1' (n + 1) c1') (vv := .slice p2 n c2) (vv' := .slice p2' (n + 1) c2') (st := st) (pl (bl A), pl (bl V)) (by rw [← e]; exact ho5) HP1.out.1 HP1.out.2.1 HSZ2.out (by rw [← e]; exact ho6) hg6 hloc6
                      exact ⟨by rw [List.length_append, ← e]; rfl, h1, HR3.out.2.2.trans (HP1.out.2.2.trans h2)⟩)
                    clear hown6 hg6 hloc6 HOW2 HSZ2 HSZ3 HO5 HP1 HST4 HR3
                    go_wp2_with fail
                    go_roundg (N - i - 1)
                    case measure => omega
                    case rel => exact ⟨i + 1, n + 1, c1', c2', p1', p2', by omega, by omega, rfl, rfl, by first | rfl | simp, HR4⟩
      · have HST2 : Hid (stK (ss.map bl) (segs (bl s)) (i + 1) = stK (ss.map bl) (segs (bl s)) i) := hide (by rw [HST.out, pp_none _ hcol]; simp)
        have HAT : Hid (∀ (j : Nat) (c : UInt8), (bl Y)[j]? = some c → c ≠ 58) := hide (fun j c h e => hcol (by subst e; exact List.mem_of_getElem? h))
        have HR4 : Hid (n = (stK (ss.map bl) (segs (bl s)) (i + 1)).length ∧ Two w1.heap.size (.slice p1 n c1) (.slice p2 n c2) (stK (ss.map bl) (segs (bl s)) (i + 1)) wr ∧ Below w1.heap.size w1 wr) := hide (by rw [HST2.out]; exact HR.out)
        clear hcol HST HST2 HR X0
        go_wp2_with fail
        go_loopg [9] Y.size (fun g2 v9 wx => wx = wr ∧ ∃ k : Nat, k + g2 = Y.size ∧ v9 = .int .i64 (k : Int))
        case atStart => exact ⟨rfl, 0, by omega, rfl⟩
        case round =>
          obtain ⟨rfl, k, hk, rfl⟩ := hrel
          by_cases hkY : k < Y.size
          · obtain ⟨c, hc⟩ := getK Y k hkY
            have ik := fun w => idxK hc w
            have hc58 := HAT.out k c hc
            have k58 : ((c.toNat : Int) != 58) = true := by
              have : ¬ (c.toNat : Int) = 58 := fun e => hc58 ((u8_eq (n := 58) (by decide)).2 (by omega))
              simpa using this
            generalize (c.toNat : Int) = z at ik k58
            clear hc hc58
            go_wp2_with fail
            go_roundg (Y.size - k - 1)
            case measure => omega
            case rel => exact ⟨rfl, k + 1, by omega, by first | rfl | simp⟩
          · have hkA : k = Y.size := by omega
            subst hkA
            have keq : ((Y.size : Int) == (Y.size : Int)) = true := by simp
            clear HAT hkY hk
            go_wp2_with fail
            go_roundg (N - i - 1)
            case measure => omega
            case rel => exact ⟨i + 1, n, c1, c2, p1, p2, by omega, by omega, rfl, rfl, by first | rfl | simp, HR4⟩
    · have hiN : i = N := by omega
      obtain ⟨st, hst⟩ : ∃ st, st = stay (ss.map bl) (bl s) := ⟨_, rfl⟩
      have hsg : stK (ss.map bl) (segs (bl s)) i = st := by
        rw [hst, ← stK_all, hiN, HN.out, ← HPS.out, List.length_map]
      have HST : Hid (n = st.length ∧ StrArg wr (.slice p1 n c1) (nmB st) ∧ StrArg wr (.slice p2 n c2) (vlB st) ∧ Below w.heap.size w wr) := hide (by
        obtain ⟨h1, h2, h3⟩ := HR.out
        rw [hsg] at h1 h2
        have h4 := h2.rn
        have h5 := h2.rv
        rw [← nmB_len] at h4
        rw [← vlB_len] at h5
        exact ⟨h1, own_arg h4, own_arg h5, HB1.out.trans (h3.mono HB1.out.size)⟩)
      have HOUT : Hid (R = ⟨(outTo st n).toArray⟩) := hide (by rw [HRES.out, HST.out.1, outTo_all, hst]; rfl)
      have HWT : Hid (wt st ≤ 300000) := hide (by
        have h1 := wt_filter (keep (ss.map bl)) (prts (bl s))
        have h2 := prts_wt (bl s)
        rw [bl_len] at h2
        rw [hst]
        unfold stay
        omega)
      clear hst hsg HR HRES HPS HPV HB1 hiN
      obtain ⟨WR, hWR⟩ : ∃ WR, WR = wr := ⟨_, rfl⟩
      rw [← hWR] at HST ⊢
      clear hWR
      go_wp2_with fail
      go_loopg [14, 15] n (fun g4 v14 v15 wx => ∃ (j : Nat) (acc : ByteArray), j + g4 = n ∧ v14 = .string acc ∧ v15 = .int .i64 (j : Int) ∧ Hid (bl acc = outTo st j ∧ Below WR.heap.size WR wx))
      case atStart => exact ⟨0, ⟨#[]⟩, by omega, rfl, rfl, hide ⟨rfl, Below.refl _ _⟩⟩
      case round =>
        obtain ⟨j, acc, hj, rfl, rfl, HA⟩ := hrel
        by_cases hlt2 : j < n
        · obtain ⟨x, hx⟩ : ∃ x, st[j]? = some x := ⟨_, List.getElem?_eq_getElem (by rw [← HST.out.1]; exact hlt2)⟩
          have hwi : (outTo st j).length + (x.1.length + x.2.length + 4) ≤ 300000 := by
            have h1 := outTo_len st j
            have h2 := wt_take st (j + 1)
            have hw : wt (st.take (j + 1)) = wt (st.take j) + (x.1.length + x.2.length + 4) := by
              rw [List.take_add_one, hx]
              unfold wt
              simp
            have h3 := HWT.out
            omega
          have hwn : n ≤ 300000 := by
            have h1 := HWT.out
            have h2 := wt_len st
            have h3 := HST.out.1
            omega
          have hnx : (nmB st)[j]? = some ⟨x.1.toArray⟩ := by unfold nmB; rw [List.getElem?_map, hx]; rfl
          have hvx : (vlB st)[j]? = some ⟨x.2.toArray⟩ := by unfold vlB; rw [List.getElem?_map, hx]; rfl
          obtain ⟨nb, noff, rfl, HNM⟩ : ∃ b off, p1 = some ⟨b, off, none⟩ ∧ Hid (∀ k (y : NV), st[k]? = some y → ∀ wx, Below WR.heap.size WR wx → wx.cell? ⟨b, off + k, none⟩ = some (.string ⟨y.1.toArray⟩)) := by
            obtain ⟨p', cap', e, -, hc⟩ := HST.out.2.1
            injection e with e1 e2 e3
            obtain ⟨b, off, e4, h⟩ := hc j _ hnx
            refine ⟨b, off, e1.trans e4, hide (fun k y hk wx hwx => ?_)⟩
            obtain ⟨b', off', e5, h'⟩ := hc k ⟨y.1.toArray⟩ (by unfold nmB; rw [List.getElem?_map, hk]; rfl)
            rw [e4] at e5
            injection e5 with e5
            injection e5 with e6 e7
            subst e6
            subst e7
            exact cell_keep h' hwx
          obtain ⟨vb, voff, rfl, HVL⟩ : ∃ b off, p2 = some ⟨b, off, none⟩ ∧ Hid (∀ wx, Below WR.heap.size WR wx → wx.cell? ⟨b, off + j, none⟩ = some (.string ⟨x.2.toArray⟩)) := by
            obtain ⟨p', cap', e, -, hc⟩ := HST.out.2.2.1
            injection e with e1 e2 e3
            obtain ⟨b, off, e4, h⟩ := hc j _ hvx
            exact ⟨b, off, e1.trans e4, hide (fun wx hwx => cell_keep h hwx)⟩
          have HX := hide hx
          have HWI := hide hwi
          clear hnx hvx hx hwi
          go_wp2_with fail
          go_loopg [16, 17] (n - j) (fun g5 v16 v17 wx => ∃ (k : Nat) (b : Bool), j + 1 ≤ k ∧ k ≤ n ∧ n ≤ k + g5 ∧ v16 = .bool b ∧ v17 = .int .i64 (k : Int) ∧ Hid ((b = true ↔ ∀ m y, j < m → m < k → st[m]? = some y → y.1 ≠ x.1) ∧ Below WR.heap.size WR wx))
          case atStart => exact ⟨j + 1, true, Nat.le_refl _, by omega, by omega, rfl, by first | rfl | simp, hide ⟨⟨fun _ m y h1 h2 => by omega, fun _ => rfl⟩, HA.out.2⟩⟩
          case round =>
            obtain ⟨k, b, hk1, hk2, hkg, rfl, rfl, HK⟩ := hrel
            by_cases hkn : k < n
            · cases b with
              | false =>
                have HK2 : Hid ((false = true ↔ ∀ m y, j < m → m < k + 1 → st[m]? = some y → y.1 ≠ x.1) ∧ Below WR.heap.size WR wr.drew) := hide ⟨⟨(fun h => by cases h), fun h => HK.out.1.2 fun m y h1 h2 => h m y h1 (by omega)⟩, HK.out.2.drew⟩
                clear HK
                go_wp2_with fail
                go_region
                go_wp2_with fail
                go_roundg (n - k - 1)
                case measure => omega
                case rel => exact ⟨k + 1, false, by omega, by omega, by omega, rfl, by first | rfl | simp, HK2⟩
              | true =>
                obtain ⟨y, hy⟩ : ∃ y, st[k]? = some y := ⟨_, List.getElem?_eq_getElem (by rw [← HST.out.1]; exact hkn)⟩
                have z0 := HNM.out k y hy wr HK.out.2
                have z1 := HNM.out j x HX.out wr HK.out.2
                have HY := hide hy
                obtain ⟨Y1, hY1⟩ : ∃ Y1 : ByteArray, Y1 = ⟨y.1.toArray⟩ := ⟨_, rfl⟩
                obtain ⟨X1, hX1⟩ : ∃ X1 : ByteArray, X1 = ⟨x.1.toArray⟩ := ⟨_, rfl⟩
                rw [← hY1] at z0
                rw [← hX1] at z1
                have q0 := eq_two Y1 X1
                have hbl : (bl Y1 = bl X1) ↔ y.1 = x.1 := by rw [hY1, hX1]
                have HBL := hide hbl
                clear hy hY1 hX1 hbl
                by_cases hyx : bl Y1 = bl X1
                · rw [decide_eq_true hyx] at q0
                  have HK2 : Hid ((false = true ↔ ∀ m y, j < m → m < k + 1 → st[m]? = some y → y.1 ≠ x.1) ∧ Below WR.heap.size WR wr.drew) := hide ⟨⟨(fun h => by cases h), fun h => absurd (HBL.out.1 hyx) (h k y (by omega) (by omega) HY.out)⟩, HK.out.2.drew⟩
                  clear HK hyx HBL
                  go_wp2_with fail
                  go_region
                  go_wp2_with fail
                  go_roundg (n - k - 1)
                  case measure => omega
                  case rel => exact ⟨k + 1, false, by omega, by omega, by omega, rfl, by first | rfl | simp, HK2⟩
                · rw [decide_eq_false hyx] at q0
                  have HK2 : Hid ((∀ m y, j < m → m < k + 1 → st[m]? = some y → y.1 ≠ x.1) ∧ Below WR.heap.size WR wr.drew) := hide ⟨fun m y' h1 h2 h3 => by
                    by_cases e : m = k
                    · subst e
                      rw [HY.out] at h3
                      cases h3
                      exact fun e => hyx (HBL.out.2 e)
                    · exact HK.out.1.1 rfl m y' h1 (by omega) h3, HK.out.2.drew⟩
                  clear HK hyx HBL
                  go_wp2_with fail
                  go_region
                  go_wp2_with fail
                  go_roundg (n - k - 1)
                  case measure => omega
                  case rel => exact ⟨k + 1, true, by omega, by omega, by omega, rfl, by first | rfl | simp, hide ⟨⟨fun _ => HK2.out.1, fun _ => rfl⟩, HK2.out.2⟩⟩
            · have hkn2 : k = n := by omega
              subst hkn2
              have HL : Hid (b = true ↔ isLast st j) := hide (by
                rw [HK.out.1]
                constructor
                · intro h m a y hm ha hy
                  rw [HX.out] at hy
                  cases hy
                  exact h m a hm (by have := (List.getElem?_eq_some_iff.1 ha).1; have := HST.out.1; omega) ha
                · intro h m y h1 _ h3
                  exact h m y x h1 h3 HX.out)
              cases b with
              | false =>
                have HA2 : Hid (bl acc = outTo st (j + 1) ∧ Below WR.heap.size WR wr) := hide ⟨by
                  rw [outTo_skip st j (fun h => by have := HL.out.2 h; cases this)]
                  exact HA.out.1, HK.out.2⟩
                clear HK HL HA
                go_wp2_with fail
                go_roundg (k - j - 1)
                case measure => omega
                case rel => exact ⟨j + 1, acc, by omega, rfl, by first | rfl | simp, HA2⟩
              | true =>
                have HEM := hide (outTo_last st j x (HL.out.1 rfl) HX.out)
                have z1 := HNM.out j x HX.out wr HK.out.2
                have z2 := HVL.out wr HK.out.2
                have HACC := hide HA.out.1
                have HB4 : Hid (Below WR.heap.size WR wr.drew) := hide HK.out.2.drew
                obtain ⟨X1, hX1⟩ : ∃ X1 : ByteArray, X1 = ⟨x.1.toArray⟩ := ⟨_, rfl⟩
                obtain ⟨X2, hX2⟩ : ∃ X2 : ByteArray, X2 = ⟨x.2.toArray⟩ := ⟨_, rfl⟩
                rw [← hX1] at z1
                rw [← hX2] at z2
                have hs1 : X1.size = x.1.length := by rw [hX1]; exact size_mk _
                have hs2 : X2.size = x.2.length := by rw [hX2]; exact size_mk _
                have hsa : acc.size = (outTo st j).length := by rw [← HA.out.1, bl_len]
                have hb1 : acc.size + X1.size + X2.size + 4 ≤ 300000 := by have := HWI.out; omega
                have HBX : Hid (bl X1 = x.1 ∧ bl X2 = x.2) := hide ⟨by rw [hX1], by rw [hX2]⟩
                have qE := empty_bl acc
                clear hX1 hX2 hs1 hs2 hsa HK HL HA HNM HVL
                by_cases ha : bl acc = []
                · rw [decide_eq_true ha] at qE
                  have HA2 : Hid (bl (acc ++ X1 ++ ⟨#[58, 32]⟩ ++ X2) = outTo st (j + 1) ∧ Below WR.heap.size WR wr.drew) := hide ⟨by
                    rw [HEM.out, ← HACC.out]
                    unfold emit
                    rw [if_pos ha, app_bl, app_bl, app_bl, ha, HBX.out.1, HBX.out.2], HB4.out⟩
                  clear ha HEM HACC HB4 HBX
                  go_wp2_with fail
                  go_region
                  go_wp2_with fail
                  go_roundg (k - j - 1)
                  case measure => omega
                  case rel => exact ⟨j + 1, acc ++ X1 ++ ⟨#[58, 32]⟩ ++ X2, by omega, by first | rfl | simp, by first | rfl | simp, HA2⟩
                · rw [decide_eq_false ha] at qE
                  have HA2 : Hid (bl (acc ++ ⟨#[59, 32]⟩ ++ X1 ++ ⟨#[58, 32]⟩ ++ X2) = outTo st (j + 1) ∧ Below WR.heap.size WR wr.drew) := hide ⟨by
                    rw [HEM.out, ← HACC.out]
                    unfold emit
                    rw [if_neg ha, app_bl, app_bl, app_bl, app_bl, HBX.out.1, HBX.out.2], HB4.out⟩
                  clear ha HEM HACC HB4 HBX
                  go_wp2_with fail
                  go_region
                  go_wp2_with fail
                  go_roundg (k - j - 1)
                  case measure => omega
                  case rel => exact ⟨j + 1, acc ++ ⟨#[59, 32]⟩ ++ X1 ++ ⟨#[58, 32]⟩ ++ X2, by omega, by first | rfl | simp, by first | rfl | simp, HA2⟩
        · have hjn : j = n := by omega
          have HE : Hid (R = acc ∧ Below w.heap.size w wr) := hide ⟨by
            rw [HOUT.out, ← hjn, ← HA.out.1], HST.out.2.2.2.trans (HA.out.2.mono HST.out.2.2.2.size)⟩
          clear hjn HA HOUT
          go_wp2_with fail
          go_ret
          rw [HE.out.1]
          exact ⟨rfl, HE.out.2⟩
end Go.Proofs.YtbcadeikdmlpoaaDoor.Sy
