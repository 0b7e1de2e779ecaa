/-
  The document's own parts: a text, parted at each byte 59.
-/
import Derived.Test.YtnjbeehfnahdfaaDoorY7
namespace Go.Proofs.YtnjbeehfnahdfaaDoor
open Go.RowKit
open Utf1 Sty

theorem infoStr : (Tryd.prog.info? 9).map (fun i => (i.zero, i.size, i.bytes)) = some (some (.string ⟨#[]⟩), 1, 16) := by kernel_rfl
def strV (l : List ByteArray) : List Value := l.map fun x => .string x
theorem strV_app (a b : List ByteArray) : strV (a ++ b) = strV a ++ strV b := List.map_append
theorem strV_len (a : List ByteArray) : (strV a).length = a.length := List.length_map ..
theorem one_new (w : World) (a : Value) (t : TypeId) : ∀ j u, [a][j]? = some u → (w.alloc (.cells #[a] t)).cell? ((⟨w.heap.size, 0, none⟩ : Addr).add j) = some u := by
  intro j u h
  rw [add_plain, Nat.zero_add]
  match j, h with
  | 0, h => simp at h; subst h; simp
  | j + 1, h => simp at h
theorem own_shape {w : World} {B : Nat} {e : TypeId} {z : Nat} {v : Value} {n : Nat} {xs : List Value} (h : w.ownsRow B e z v n xs) : ∃ p c, v = .slice p n c ∧ (p = none → c = 0) := by
  rcases h.2 with ⟨rfl, h0⟩ | ⟨g, cap, cur, rfl, _⟩
  · exact ⟨none, 0, by rw [h0], fun _ => rfl⟩
  · exact ⟨_, _, rfl, fun h => by cases h⟩
theorem own_arg {w : World} {B : Nat} {v : Value} {ss : List ByteArray} (h : w.ownsRow B 9 1 v ss.length (strV ss)) : StrArg w v ss := by
  have h0 := h
  rcases h.2 with ⟨rfl, hz⟩ | ⟨g, cap, cur, rfl, _⟩
  · have : ss = [] := List.eq_nil_of_length_eq_zero hz
    subst this
    exact ⟨none, 0, rfl, fun _ => rfl, fun i s h => by simp at h⟩
  · refine ⟨some ⟨g, 0, none⟩, cap, rfl, (fun h => by cases h), fun i s hi => ⟨g, 0, rfl, ?_⟩⟩
    have hl := (List.getElem?_eq_some_iff.1 hi).1
    rw [Nat.zero_add, h0.cellAt i (by omega)]
    unfold strV
    rw [List.getElem?_map, hi]
    rfl
theorem drop_segs (s : L) (f i : Nat) (hfi : f ≤ i) (hi : i < s.length) (h : s[i]? = some 59) (hn : ∀ j, f ≤ j → j < i → s[j]? ≠ some 59) : segs (s.drop f) = (s.drop f).take (i - f) :: segs (s.drop (i + 1)) := by
  have e : s.drop f = (s.drop f).take (i - f) ++ 59 :: s.drop (i + 1) := by
    conv => lhs; rw [← List.take_append_drop (i - f) (s.drop f)]
    congr 1
    rw [List.drop_drop, show f + (i - f) = i by omega, List.drop_eq_getElem_cons hi]
    congr 1
    rw [List.getElem?_eq_getElem hi] at h
    exact Option.some.inj h
  have hno : (59 : UInt8) ∉ (s.drop f).take (i - f) := by
    intro hm
    obtain ⟨j, hj⟩ := List.mem_iff_getElem?.1 hm
    rw [List.getElem?_take] at hj
    split at hj
    · rw [List.getElem?_drop] at hj
      exact hn (f + j) (by omega) (by omega) hj
    · cases hj
  conv => lhs; rw [e]
  exact segs_semi _ _ hno
theorem last_segs (s : L) (f : Nat) (hn : ∀ j, f ≤ j → j < s.length → s[j]? ≠ some 59) : segs (s.drop f) = [s.drop f] := by
  apply segs_end
  intro hm
  obtain ⟨j, hj⟩ := List.mem_iff_getElem?.1 hm
  have := (List.getElem?_eq_some_iff.1 hj).1
  rw [List.length_drop] at this
  rw [List.getElem?_drop] at hj
  exact hn (f + j) (by omega) (by omega) hj

set_option maxRecDepth 100000 in
set_option maxHeartbeats 8000000 in
theorem parts_any (s : ByteArray) (hs : s.size ≤ 100000) (w : World) :
    Calls Tryd.prog 21 #[.string s, .int .u8 59] w fun e w' => ∃ v ps, e = .returned v ∧ StrArg w' v ps ∧ ps.map bl = segs (bl s) ∧ Below w.heap.size w w' := by
  obtain ⟨i0, hi, hz0, hz1, hz2⟩ := info_parts infoStr
  go_enter Tryd.func21, Tryd.ntmps21
  go_wp2_with fail
  go_loopg [5, 6, 7] (s.size + 1) (fun g v5 v6 v7 wr => ∃ (f i n c : Nat) (p : Option Addr) (ps : List ByteArray), i + g = s.size + 1 ∧ f ≤ i ∧ n ≤ i ∧ v5 = .slice p n c ∧ v6 = .int .i64 (f : Int) ∧ v7 = .int .i64 (i : Int) ∧ Hid (n = ps.length ∧ wr.ownsRow w.heap.size 9 1 (.slice p n c) n (strV ps) ∧ Below w.heap.size w wr ∧
    ((i ≤ s.size ∧ ps.map bl ++ segs ((bl s).drop f) = segs (bl s) ∧ ∀ j, f ≤ j → j < i → (bl s)[j]? ≠ some 59) ∨ (i = s.size + 1 ∧ ps.map bl = segs (bl s)))))
  case atStart => exact ⟨0, 0, 0, 0, none, [], by omega, Nat.le_refl _, Nat.le_refl _, rfl, rfl, rfl, hide ⟨rfl, ⟨rfl, .inl ⟨rfl, rfl⟩⟩, Below.refl _ _, .inl ⟨Nat.zero_le _, rfl, fun j h1 h2 => by omega⟩⟩⟩
  case round =>
    obtain ⟨f, i, n, c, p, ps, hig, hfi, hni, rfl, rfl, rfl, HR⟩ := hrel
    by_cases hlt : i < s.size
    · obtain ⟨d, hd⟩ := getK s i hlt
      have ip := fun w => idxK hd w
      have hno : ps.map bl ++ segs ((bl s).drop f) = segs (bl s) ∧ ∀ j, f ≤ j → j < i → (bl s)[j]? ≠ some 59 := by
        rcases HR.out.2.2.2 with h | h
        · exact h.2
        · omega
      have HNO := hide hno
      have k59 : ((d.toNat : Int) == 59) = decide (d = 59) := beqK d 59 (by decide)
      have keq : ((i : Int) == (s.size : Int)) = false := beq_eq_false_iff_ne.2 (by omega)
      have HD := hide hd
      clear hno hd
      by_cases h59 : d = 59
      · rw [decide_eq_true h59] at k59
        have HSE : Hid ((ps ++ [s.extract f i]).map bl ++ segs ((bl s).drop (i + 1)) = segs (bl s)) := hide (by
          rw [← HNO.out.1, drop_segs (bl s) f i hfi (by rw [bl_len]; exact hlt) (by rw [HD.out, h59]) HNO.out.2, List.map_append, List.append_assoc]
          congr 1
          show [bl (s.extract f i)] ++ _ = _
          rw [extract_bl]
          rfl)
        generalize (d.toNat : Int) = z at ip k59
        clear h59 HNO HD
        have HOW : Hid ((wr.alloc (.cells #[.string (s.extract f i)] 9)).ownsRow w.heap.size 9 1 (.slice p n c) n (strV ps)) := hide (HR.out.2.1.alloc _)
        have HSZ : Hid (w.heap.size ≤ (wr.alloc (.cells #[.string (s.extract f i)] 9)).heap.size) := hide (by have := HR.out.2.2.1.size; simp; omega)
        go_wp2_with (at_builtin; refine wpList_append_own _ rfl _ _ 22 rfl w.heap.size 9 i0 _ 1 16 Tryd.underlying22 hi hz0 hz1 hz2 rfl (by decide) (.slice p n c) n (strV ps) rfl HOW.out ⟨wr.heap.size, 0, none⟩ 1 1 [.string (s.extract f i)] rfl rfl (one_new _ _ _) (by simp [Value.oneCell']) (by unfold maxLen; omega) (by omega) HSZ.out ?_)
        intro u' w3 hown3 hg3 _
        obtain ⟨p', c', rfl, -⟩ := own_shape hown3
        have HR3 : Hid (n + 1 = (ps ++ [s.extract f i]).length ∧ w3.ownsRow w.heap.size 9 1 (.slice p' (n + 1) c') (n + 1) (strV (ps ++ [s.extract f i])) ∧ Below w.heap.size w w3) := hide ⟨by rw [List.length_append, ← HR.out.1]; rfl, by rw [strV_app]; exact hown3, (HR.out.2.2.1.alloc HR.out.2.2.1.size _).grown hg3 (by have := HR.out.2.2.1.size; simp; omega) (fun k hk => by
          have := HR.out.2.1
          rcases this.2 with ⟨e, _⟩ | ⟨g, cap, cur, e, hg, _⟩
          · rw [e] at hk; simp [Value.ownBlock] at hk
          · rw [e] at hk; simp only [Value.ownBlock, Option.some.injEq] at hk; omega)⟩
        clear hown3 hg3 HOW HSZ HR
        go_wp2_with fail
        go_roundg (gk - 1)
        case measure => omega
        case rel => exact ⟨i + 1, i + 1, n + 1, c', p', ps ++ [s.extract f i], by omega, Nat.le_refl _, by omega, rfl, by first | rfl | simp, by first | rfl | simp, hide ⟨HR3.out.1, HR3.out.2.1, HR3.out.2.2, .inl ⟨by omega, HSE.out, fun j h1 h2 => by omega⟩⟩⟩
      · rw [decide_eq_false h59] at k59
        have HN2 : Hid (∀ j, f ≤ j → j < i + 1 → (bl s)[j]? ≠ some 59) := hide (fun j h1 h2 => by
          by_cases e : j = i
          · subst e
            rw [HD.out]
            intro e'
            exact h59 (Option.some.inj e')
          · exact HNO.out.2 j h1 (by omega))
        have HR2 := hide (show i + 1 ≤ s.size ∧ ps.map bl ++ segs ((bl s).drop f) = segs (bl s) ∧ ∀ j, f ≤ j → j < i + 1 → (bl s)[j]? ≠ some 59 from ⟨by omega, HNO.out.1, HN2.out⟩)
        generalize (d.toNat : Int) = z at ip k59
        clear h59 HNO HD HN2
        go_wp2_with fail
        go_roundg (gk - 1)
        case measure => omega
        case rel => exact ⟨f, i + 1, n, c, p, ps, by omega, by omega, by omega, rfl, rfl, by first | rfl | simp, hide ⟨HR.out.1, HR.out.2.1, HR.out.2.2.1, .inl HR2.out⟩⟩
    · by_cases heq : i = s.size
      · subst heq
        have hno : ps.map bl ++ segs ((bl s).drop f) = segs (bl s) ∧ ∀ j, f ≤ j → j < s.size → (bl s)[j]? ≠ some 59 := by
          rcases HR.out.2.2.2 with h | h
          · exact h.2
          · omega
        have HSE : Hid ((ps ++ [s.extract f s.size]).map bl = segs (bl s)) := hide (by
          rw [← hno.1, last_segs (bl s) f (by rw [bl_len]; exact hno.2), List.map_append]
          congr 1
          show [bl (s.extract f s.size)] = _
          rw [extract_bl, List.take_of_length_le (by rw [List.length_drop, bl_len]; omega)])
        have keq : ((s.size : Int) == (s.size : Int)) = true := by simp
        clear hno hlt
        have HOW : Hid ((wr.alloc (.cells #[.string (s.extract f s.size)] 9)).ownsRow w.heap.size 9 1 (.slice p n c) n (strV ps)) := hide (HR.out.2.1.alloc _)
        have HSZ : Hid (w.heap.size ≤ (wr.alloc (.cells #[.string (s.extract f s.size)] 9)).heap.size) := hide (by have := HR.out.2.2.1.size; simp; omega)
        go_wp2_with (at_builtin; refine wpList_append_own _ rfl _ _ 22 rfl w.heap.size 9 i0 _ 1 16 Tryd.underlying22 hi hz0 hz1 hz2 rfl (by decide) (.slice p n c) n (strV ps) rfl HOW.out ⟨wr.heap.size, 0, none⟩ 1 1 [.string (s.extract f s.size)] rfl rfl (one_new _ _ _) (by simp [Value.oneCell']) (by unfold maxLen; omega) (by omega) HSZ.out ?_)
        intro u' w3 hown3 hg3 _
        obtain ⟨p', c', rfl, -⟩ := own_shape hown3
        have HR3 : Hid (n + 1 = (ps ++ [s.extract f s.size]).length ∧ w3.ownsRow w.heap.size 9 1 (.slice p' (n + 1) c') (n + 1) (strV (ps ++ [s.extract f s.size])) ∧ Below w.heap.size w w3) := hide ⟨by rw [List.length_append, ← HR.out.1]; rfl, by rw [strV_app]; exact hown3, (HR.out.2.2.1.alloc HR.out.2.2.1.size _).grown hg3 (by have := HR.out.2.2.1.size; simp; omega) (fun k hk => by
          have := HR.out.2.1
          rcases this.2 with ⟨e, _⟩ | ⟨g, cap, cur, e, hg, _⟩
          · rw [e] at hk; simp [Value.ownBlock] at hk
          · rw [e] at hk; simp only [Value.ownBlock, Option.some.injEq] at hk; omega)⟩
        clear hown3 hg3 HOW HSZ HR
        go_wp2_with fail
        go_roundg (gk - 1)
        case measure => omega
        case rel => exact ⟨s.size + 1, s.size + 1, n + 1, c', p', ps ++ [s.extract f s.size], by omega, Nat.le_refl _, by omega, rfl, by first | rfl | simp, by first | rfl | simp, hide ⟨HR3.out.1, HR3.out.2.1, HR3.out.2.2, .inr ⟨rfl, HSE.out⟩⟩⟩
      · have HE : Hid (StrArg wr (.slice p n c) ps ∧ ps.map bl = segs (bl s) ∧ Below w.heap.size w wr) := hide (by
          refine ⟨?_, ?_, HR.out.2.2.1⟩
          · have h1 := HR.out.2.1
            exact own_arg (B := w.heap.size) (by rw [← HR.out.1]; exact h1)
          · rcases HR.out.2.2.2 with h | h
            · omega
            · exact h.2)
        have hle : ¬ i ≤ s.size := by omega
        clear HR
        go_wp2_with fail
        go_ret
        exact ⟨_, ps, rfl, HE.out⟩
end Go.Proofs.YtnjbeehfnahdfaaDoor
