/-
  The document's own cut and number.
-/
import Derived.Test.YteglmpaapcgfbaaDoorQ7
namespace Go.Proofs.YteglmpaapcgfbaaDoor
open Go.RowKit
open Utf1 Pol8

theorem drop_segs (c : UInt8) (s : L) (f i : Nat) (hfi : f ≤ i) (hi : i < s.length) (h : s[i]? = some c) (hn : ∀ j, f ≤ j → j < i → s[j]? ≠ some c) : segs c (s.drop f) = (s.drop f).take (i - f) :: segs c (s.drop (i + 1)) := by
  have e : s.drop f = (s.drop f).take (i - f) ++ c :: s.drop (i + 1) := by
    conv => lhs; rw [← List.take_append_drop (i - f) (s.drop f)]
    congr 1
    rw [List.drop_drop, show f + (i - f) = i by omega, List.drop_eq_getElem_cons hi]
    congr 1
    rw [List.getElem?_eq_getElem hi] at h
    exact Option.some.inj h
  have hno : c ∉ (s.drop f).take (i - f) := by
    intro hm
    obtain ⟨j, hj⟩ := List.mem_iff_getElem?.1 hm
    rw [List.getElem?_take] at hj
    split at hj
    · rw [List.getElem?_drop] at hj
      exact hn (f + j) (by omega) (by omega) hj
    · cases hj
  conv => lhs; rw [e]
  exact segs_semi c _ _ hno
theorem last_segs (c : UInt8) (s : L) (f : Nat) (hn : ∀ j, f ≤ j → j < s.length → s[j]? ≠ some c) : segs c (s.drop f) = [s.drop f] := by
  apply segs_end c
  intro hm
  obtain ⟨j, hj⟩ := List.mem_iff_getElem?.1 hm
  have := (List.getElem?_eq_some_iff.1 hj).1
  rw [List.length_drop] at this
  rw [List.getElem?_drop] at hj
  exact hn (f + j) (by omega) (by omega) hj

theorem beqC (a b : UInt8) : ((a.toNat : Int) == (b.toNat : Int)) = decide (a = b) := by
  by_cases h : a = b
  · rw [h, decide_eq_true rfl]
    simp
  · rw [decide_eq_false h]
    apply beq_eq_false_iff_ne.2
    intro e
    exact h (UInt8.toNat_inj.1 (by omega))

set_option maxRecDepth 100000 in
set_option maxHeartbeats 8000000 in
theorem rcut_any (c : UInt8) (s : ByteArray) (hs : s.size ≤ 100000) (w : World) :
    Calls Tryd.prog 48 #[.string s, .int .u8 (c.toNat : Int)] w fun e w' => ∃ v ps, e = .returned v ∧ StrArg w' v ps ∧ ps.map bl = segs c (bl s) ∧ Below w.heap.size w w' := by
  obtain ⟨i0, hi, hz0, hz1, hz2⟩ := info_parts infoStr
  go_enter Tryd.func48, Tryd.ntmps48
  go_wp2_with fail
  go_loopg [5, 6, 7] (s.size + 1) (fun g v5 v6 v7 wr => ∃ (f i n cp : Nat) (p : Option Addr) (ps : List ByteArray), i + g = s.size + 1 ∧ f ≤ i ∧ n ≤ i ∧ v5 = .slice p n cp ∧ v6 = .int .i64 (f : Int) ∧ v7 = .int .i64 (i : Int) ∧ Hid (n = ps.length ∧ wr.ownsRow w.heap.size 9 1 (.slice p n cp) n (strV ps) ∧ Below w.heap.size w wr ∧
    ((i ≤ s.size ∧ ps.map bl ++ segs c ((bl s).drop f) = segs c (bl s) ∧ ∀ j, f ≤ j → j < i → (bl s)[j]? ≠ some c) ∨ (i = s.size + 1 ∧ ps.map bl = segs c (bl s)))))
  case atStart => exact ⟨0, 0, 0, 0, none, [], by omega, Nat.le_refl _, Nat.le_refl _, rfl, rfl, rfl, hide ⟨rfl, ⟨rfl, .inl ⟨rfl, rfl⟩⟩, Below.refl _ _, .inl ⟨Nat.zero_le _, rfl, fun j h1 h2 => by omega⟩⟩⟩
  case round =>
    obtain ⟨f, i, n, cp, p, ps, hig, hfi, hni, rfl, rfl, rfl, HR⟩ := hrel
    by_cases hlt : i < s.size
    · obtain ⟨d, hd⟩ := getK s i hlt
      have ip := fun w => idxK hd w
      have hno : ps.map bl ++ segs c ((bl s).drop f) = segs c (bl s) ∧ ∀ j, f ≤ j → j < i → (bl s)[j]? ≠ some c := by
        rcases HR.out.2.2.2 with h | h
        · exact h.2
        · omega
      have HNO := hide hno
      have k59 : ((d.toNat : Int) == (c.toNat : Int)) = decide (d = c) := beqC d c
      have keq : ((i : Int) == (s.size : Int)) = false := beq_eq_false_iff_ne.2 (by omega)
      have HD := hide hd
      clear hno hd
      by_cases h59 : d = c
      · rw [decide_eq_true h59] at k59
        have HSE : Hid ((ps ++ [s.extract f i]).map bl ++ segs c ((bl s).drop (i + 1)) = segs c (bl s)) := hide (by
          rw [← HNO.out.1, drop_segs c (bl s) f i hfi (by rw [bl_len]; exact hlt) (by rw [HD.out, h59]) HNO.out.2, List.map_append, List.append_assoc]
          congr 1
          show [bl (s.extract f i)] ++ _ = _
          rw [extract_bl]
          rfl)
        generalize (d.toNat : Int) = z at ip k59
        clear h59 HNO HD
        have HOW : Hid ((wr.alloc (.cells #[.string (s.extract f i)] 9)).ownsRow w.heap.size 9 1 (.slice p n cp) n (strV ps)) := hide (HR.out.2.1.alloc _)
        have HSZ : Hid (w.heap.size ≤ (wr.alloc (.cells #[.string (s.extract f i)] 9)).heap.size) := hide (by have := HR.out.2.2.1.size; simp; omega)
        go_wp2_with (at_builtin; refine wpList_append_own _ rfl _ _ 22 rfl w.heap.size 9 i0 _ 1 16 Tryd.underlying22 hi hz0 hz1 hz2 rfl (by decide) (.slice p n cp) n (strV ps) rfl HOW.out ⟨wr.heap.size, 0, none⟩ 1 1 [.string (s.extract f i)] rfl rfl (one_new _ _ _) (by simp [Value.oneCell']) (by unfold maxLen; omega) (by omega) HSZ.out ?_)
        intro u' w3 hown3 hg3 _
        obtain ⟨p', c', rfl, -⟩ := own_shape hown3
        have HR3 : Hid (n + 1 = (ps ++ [s.extract f i]).length ∧ w3.ownsRow w.heap.size 9 1 (.slice p' (n + 1) c') (n + 1) (strV (ps ++ [s.extract f i])) ∧ Below w.heap.size w w3) := hide ⟨by rw [List.length_append, ← HR.out.1]; rfl, by rw [strV_app]; exact hown3, (HR.out.2.2.1.alloc HR.out.2.2.1.size _).grown hg3 (by have := HR.out.2.2.1.size; simp; omega) (fun k hk => by
          have := HR.out.2.1
          rcases this.2 with ⟨e, _⟩ | ⟨g, cap, cur, e, hg, _⟩
          · rw [e] at hk; simp [Value.ownBlock] at hk
          · rw [e] at hk; simp only [Value.ownBlock, Option.some.injEq] at hk; omega)⟩
        clear hown3 hg3 HOW HSZ HR
        go_wp2_with fail
        go_roundg (gk - 1)
        case measure => omega
        case rel => exact ⟨i + 1, i + 1, n + 1, c', p', ps ++ [s.extract f i], by omega, Nat.le_refl _, by omega, rfl, by first | rfl | simp, by first | rfl | simp, hide ⟨HR3.out.1, HR3.out.2.1, HR3.out.2.2, .inl ⟨by omega, HSE.out, fun j h1 h2 => by omega⟩⟩⟩
      · rw [decide_eq_false h59] at k59
        have HN2 : Hid (∀ j, f ≤ j → j < i + 1 → (bl s)[j]? ≠ some c) := hide (fun j h1 h2 => by
          by_cases e : j = i
          · subst e
            rw [HD.out]
            intro e'
            exact h59 (Option.some.inj e')
          · exact HNO.out.2 j h1 (by omega))
        have HR2 := hide (show i + 1 ≤ s.size ∧ ps.map bl ++ segs c ((bl s).drop f) = segs c (bl s) ∧ ∀ j, f ≤ j → j < i + 1 → (bl s)[j]? ≠ some c from ⟨by omega, HNO.out.1, HN2.out⟩)
        generalize (d.toNat : Int) = z at ip k59
        clear h59 HNO HD HN2
        go_wp2_with fail
        go_roundg (gk - 1)
        case measure => omega
        case rel => exact ⟨f, i + 1, n, cp, p, ps, by omega, by omega, by omega, rfl, rfl, by first | rfl | simp, hide ⟨HR.out.1, HR.out.2.1, HR.out.2.2.1, .inl HR2.out⟩⟩
    · by_cases heq : i = s.size
      · subst heq
        have hno : ps.map bl ++ segs c ((bl s).drop f) = segs c (bl s) ∧ ∀ j, f ≤ j → j < s.size → (bl s)[j]? ≠ some c := by
          rcases HR.out.2.2.2 with h | h
          · exact h.2
          · omega
        have HSE : Hid ((ps ++ [s.extract f s.size]).map bl = segs c (bl s)) := hide (by
          rw [← hno.1, last_segs c (bl s) f (by rw [bl_len]; exact hno.2), List.map_append]
          congr 1
          show [bl (s.extract f s.size)] = _
          rw [extract_bl, List.take_of_length_le (by rw [List.length_drop, bl_len]; omega)])
        have keq : ((s.size : Int) == (s.size : Int)) = true := by simp
        clear hno hlt
        have HOW : Hid ((wr.alloc (.cells #[.string (s.extract f s.size)] 9)).ownsRow w.heap.size 9 1 (.slice p n cp) n (strV ps)) := hide (HR.out.2.1.alloc _)
        have HSZ : Hid (w.heap.size ≤ (wr.alloc (.cells #[.string (s.extract f s.size)] 9)).heap.size) := hide (by have := HR.out.2.2.1.size; simp; omega)
        go_wp2_with (at_builtin; refine wpList_append_own _ rfl _ _ 22 rfl w.heap.size 9 i0 _ 1 16 Tryd.underlying22 hi hz0 hz1 hz2 rfl (by decide) (.slice p n cp) n (strV ps) rfl HOW.out ⟨wr.heap.size, 0, none⟩ 1 1 [.string (s.extract f s.size)] rfl rfl (one_new _ _ _) (by simp [Value.oneCell']) (by unfold maxLen; omega) (by omega) HSZ.out ?_)
        intro u' w3 hown3 hg3 _
        obtain ⟨p', c', rfl, -⟩ := own_shape hown3
        have HR3 : Hid (n + 1 = (ps ++ [s.extract f s.size]).length ∧ w3.ownsRow w.heap.size 9 1 (.slice p' (n + 1) c') (n + 1) (strV (ps ++ [s.extract f s.size])) ∧ Below w.heap.size w w3) := hide ⟨by rw [List.length_append, ← HR.out.1]; rfl, by rw [strV_app]; exact hown3, (HR.out.2.2.1.alloc HR.out.2.2.1.size _).grown hg3 (by have := HR.out.2.2.1.size; simp; omega) (fun k hk => by
          have := HR.out.2.1
          rcases this.2 with ⟨e, _⟩ | ⟨g, cap, cur, e, hg, _⟩
          · rw [e] at hk; simp [Value.ownBlock] at hk
          · rw [e] at hk; simp only [Value.ownBlock, Option.some.injEq] at hk; omega)⟩
        clear hown3 hg3 HOW HSZ HR
        go_wp2_with fail
        go_roundg (gk - 1)
        case measure => omega
        case rel => exact ⟨s.size + 1, s.size + 1, n + 1, c', p', ps ++ [s.extract f s.size], by omega, Nat.le_refl _, by omega, rfl, by first | rfl | simp, by first | rfl | simp, hide ⟨HR3.out.1, HR3.out.2.1, HR3.out.2.2, .inr ⟨rfl, HSE.out⟩⟩⟩
      · have HE : Hid (StrArg wr (.slice p n cp) ps ∧ ps.map bl = segs c (bl s) ∧ Below w.heap.size w wr) := hide (by
          refine ⟨?_, ?_, HR.out.2.2.1⟩
          · have h1 := HR.out.2.1
            exact own_arg (B := w.heap.size) (by rw [← HR.out.1]; exact h1)
          · rcases HR.out.2.2.2 with h | h
            · omega
            · exact h.2)
        have hle : ¬ i ≤ s.size := by omega
        clear HR
        go_wp2_with fail
        go_ret
        exact ⟨_, ps, rfl, HE.out⟩

theorem num_bad {l : L} {k : Nat} {c : UInt8} (h : l[k]? = some c) (hc : dig c = false) : num l = 0 := by
  unfold num
  rw [if_neg]
  rintro ⟨h1, _⟩
  have := List.all_eq_true.1 h1 c (List.mem_of_getElem? h)
  rw [hc] at this
  cases this
theorem num_long {l : L} (h : 7 < l.length) : num l = 0 := by
  unfold num
  rw [if_neg]
  rintro ⟨_, h1⟩
  omega
theorem numTo_step {l : L} {k : Nat} {c : UInt8} (h : l[k]? = some c) : numTo 0 (l.take (k + 1)) = stepN (numTo 0 (l.take k)) c := by
  rw [List.take_add_one, h]
  exact (numTo_app (l.take k) [c] 0).trans (numTo_one _ _)
theorem numTo_lt (l : L) : ∀ n : Nat, l.all dig = true → numTo n l < (n + 1) * 10 ^ l.length := by
  induction l with
  | nil =>
    intro n _
    rw [List.length_nil, Nat.pow_zero, Nat.mul_one]
    exact Nat.lt_succ_self n
  | cons c l ih =>
    intro n h
    rw [List.all_cons, Bool.and_eq_true] at h
    have hc := of_decide_eq_true h.1
    have i1 := ih (stepN n c) h.2
    unfold stepN at i1
    have h1 : n * 10 + (c.toNat - 48) + 1 ≤ (n + 1) * 10 := by omega
    have h2 := Nat.mul_le_mul_right (10 ^ l.length) h1
    have h3 : (n + 1) * 10 * 10 ^ l.length = (n + 1) * 10 ^ (c :: l).length := by
      rw [List.length_cons, Nat.pow_succ, Nat.mul_assoc, Nat.mul_comm 10]
    rw [numTo_cons]
    unfold stepN
    rw [h3] at h2
    exact Nat.lt_of_lt_of_le i1 h2

set_option maxRecDepth 100000 in
set_option maxHeartbeats 8000000 in
theorem rnumber_any (s : ByteArray) (hs : s.size ≤ 100000) (w : World) :
    Calls Tryd.prog 49 #[.string s] w fun e w' => e = .returned (.int .i64 (num (bl s) : Int)) ∧ w' = w := by
  obtain ⟨R, hR⟩ : ∃ R : Int, R = (num (bl s) : Int) := ⟨_, rfl⟩
  rw [← hR]
  have HAL := hide hR
  clear hR
  go_enter Tryd.func49, Tryd.ntmps49
  go_wp2_with fail
  go_loopg [3, 4] s.size (fun g v3 v4 wx => wx = w ∧ ∃ k n : Nat, k + g = s.size ∧ v4 = .int .i64 (k : Int) ∧ v3 = .int .i64 (n : Int) ∧ n ≤ 99999999 ∧ Hid ((0 < k → s.size ≤ 7) ∧ n = numTo 0 ((bl s).take k) ∧ ((bl s).take k).all dig = true))
  case atStart => exact ⟨rfl, 0, 0, by omega, rfl, rfl, by omega, hide ⟨fun h => by omega, rfl, rfl⟩⟩
  case round =>
    obtain ⟨rfl, k, n, hk, rfl, rfl, hn, HU⟩ := hrel
    by_cases hlt : k < s.size
    · obtain ⟨c, hc⟩ := getK s k hlt
      have ip := fun w => idxK hc w
      have hb := c.toNat_lt
      have HNO : Hid (dig c = false → R = 0) := hide (fun h => by rw [HAL.out, num_bad hc h]; rfl)
      have HST : Hid (numTo 0 ((bl s).take (k + 1)) = numTo 0 ((bl s).take k) * 10 + (c.toNat - 48)) := hide (numTo_step hc)
      have HAD : Hid (dig c = true → ((bl s).take (k + 1)).all dig = true) := hide (fun h => by
        rw [List.take_add_one, hc, List.all_append, HU.out.2.2]
        simp [h])
      have HDG : Hid (dig c = decide (48 ≤ c.toNat ∧ c.toNat ≤ 57)) := hide rfl
      obtain ⟨m, hm⟩ : ∃ m, m = c.toNat := ⟨_, rfl⟩
      rw [← hm] at ip hb HST HDG
      clear hc hm
      rcases (show m < 48 ∨ 57 < m ∨ (48 ≤ m ∧ m ≤ 57) from by omega) with h | h | h
      · have HR : Hid (R = 0) := hide (HNO.out (by rw [HDG.out]; exact decide_eq_false (by omega)))
        have l48 : decide ((m : Int) < 48) = true := decide_eq_true (by omega)
        clear HNO HST HAD HDG HU h hb HAL
        go_wp2_with fail
        go_ret
        rw [HR.out]
        exact ⟨rfl, rfl⟩
      · have HR : Hid (R = 0) := hide (HNO.out (by rw [HDG.out]; exact decide_eq_false (by omega)))
        have l48 : decide ((m : Int) < 48) = false := decide_eq_false (by omega)
        have g57 : decide ((57 : Int) < (m : Int)) = true := decide_eq_true (by omega)
        clear HNO HST HAD HDG HU h hb HAL
        go_wp2_with fail
        go_ret
        rw [HR.out]
        exact ⟨rfl, rfl⟩
      · have l48 : decide ((m : Int) < 48) = false := decide_eq_false (by omega)
        have g57 : decide ((57 : Int) < (m : Int)) = false := decide_eq_false (by omega)
        by_cases h7 : 7 < s.size
        · have HR : Hid (R = 0) := hide (by rw [HAL.out, num_long (by rw [bl_len]; exact h7)]; rfl)
          clear HNO HST HAD HDG HU HAL
          go_wp2_with fail
          go_ret
          rw [HR.out]
          exact ⟨rfl, rfl⟩
        · obtain ⟨d, hd⟩ : ∃ d : Nat, m = 48 + d := ⟨m - 48, by omega⟩
          subst hd
          have hd10 : d < 10 := by omega
          have HU2 : Hid ((0 < k + 1 → s.size ≤ 7) ∧ n * 10 + d = numTo 0 ((bl s).take (k + 1)) ∧ ((bl s).take (k + 1)).all dig = true) := hide ⟨fun _ => by omega, by rw [HST.out, ← HU.out.2.1]; omega, HAD.out (by rw [HDG.out]; exact decide_eq_true (by omega))⟩
          have hn2 : n * 10 + d ≤ 99999999 := by
            have h1 := HU2.out.2.1
            have h2 := numTo_lt ((bl s).take (k + 1)) 0 HU2.out.2.2
            have h3 : ((bl s).take (k + 1)).length ≤ 7 := by
              rw [List.length_take, bl_len]
              omega
            have h4 : 10 ^ ((bl s).take (k + 1)).length ≤ 10 ^ 7 := Nat.pow_le_pow_right (by omega) h3
            omega
          clear HNO HST HAD HDG HU HAL hb h
          have hcast : ((48 + d : Nat) : Int) = 48 + (d : Int) := by omega
          rw [hcast] at ip l48 g57
          clear hcast
          go_wp2_with fail
          go_roundg (s.size - k - 1)
          case measure => omega
          case rel => exact ⟨rfl, k + 1, n * 10 + d, by omega, by first | rfl | simp, by first | rfl | (simp; done) | (simp; omega), hn2, HU2⟩
    · have HR : Hid (R = (n : Int)) := hide (by
        have h1 : (bl s).take k = bl s := List.take_of_length_le (by rw [bl_len]; omega)
        have h2 := HU.out
        rw [h1] at h2
        have h7 : (bl s).length ≤ 7 := by
          rw [bl_len]
          by_cases h0 : 0 < k
          · exact h2.1 h0
          · omega
        have e : num (bl s) = n := by
          unfold num
          rw [if_pos ⟨h2.2.2, h7⟩]
          exact h2.2.1.symm
        rw [HAL.out, e])
      clear HU HAL
      go_wp2_with fail
      go_ret
      rw [HR.out]
      exact ⟨rfl, rfl⟩
end Go.Proofs.YteglmpaapcgfbaaDoor
