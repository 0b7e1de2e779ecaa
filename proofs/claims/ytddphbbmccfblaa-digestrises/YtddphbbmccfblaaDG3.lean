/-
  The document's Lacks and Join, walked.
-/
import Derived.Test.YtddphbbmccfblaaDG2
namespace Go.Proofs.Ytddphbbmccfblaa
open Go.RowKit
open Utf1
open Pol8 hiding text right Right
open Dg16

/-- A row that rises, of just these members. -/
def RowQ (w' : World) (P : Pol8.L → Prop) (e : Ending) : Prop := ∃ v' R, e = .returned v' ∧ StrNe w' v' R ∧ Ri (R.map bl) P
theorem put_len : ∀ (l : List Pol8.L) (x : Pol8.L), (putR l x).length ≤ l.length + 1
  | [], _ => by simp [putR]
  | a :: r, x => by
    unfold putR
    have := put_len r x
    split
    · simp; omega
    · split
      · simp
      · simp
theorem mem_take {bs : List ByteArray} {j : Nat} {x : ByteArray} (h : bs[j]? = some x) (y : Pol8.L) : y ∈ (bs.take (j + 1)).map bl ↔ y = bl x ∨ y ∈ (bs.take j).map bl := by
  rw [List.take_add_one, h, List.map_append, List.mem_append]
  constructor
  · rintro (h | h)
    · exact .inr h
    · exact .inl (List.mem_singleton.1 h)
  · rintro (h | h)
    · right
      rw [h]
      exact List.mem_singleton.2 rfl
    · exact .inl h
theorem strArg_cell {w : World} {p : Option Addr} {n c i : Nat} {ss : List ByteArray} {x : ByteArray} (h : StrArg w (.slice p n c) ss) (hi : ss[i]? = some x) : ∃ b o, p = some ⟨b, o, none⟩ ∧ w.cell? ⟨b, o + i, none⟩ = some (.string x) := by
  obtain ⟨p', c', e, -, hc⟩ := h
  obtain ⟨b, o, hp, k⟩ := hc i x hi
  injection e with e _ _
  exact ⟨b, o, e.trans hp, k⟩
theorem strNe_nil (w : World) : StrNe w (.slice none 0 0) [] := ⟨strCap_nil w, fun _ => rfl⟩
theorem strNe_shape {w : World} {v : Value} {ss : List ByteArray} (h : StrNe w v ss) : ∃ p n c, v = .slice p n c := by
  obtain ⟨p, n, c, e, _⟩ := h.1.2
  exact ⟨p, n, c, e⟩

set_option maxRecDepth 100000 in
set_option maxHeartbeats 8000000 in
theorem mlacks_any (v u : Value) (ls bs : List ByteArray) (ha : ls.length ≤ 100000) (hb : bs.length ≤ 100000) (w : World) (hv : StrArg w v ls) (hu : StrArg w u bs) :
    Calls Try.prog 13 #[v, u] w fun e w' => RowQ w' (fun y => y ∈ bs.map bl ∧ y ∉ ls.map bl) e ∧ Below w.heap.size w w' := by
  have HV := hide hv
  have HU := hide hu
  obtain ⟨p, c, rfl, -, -⟩ := hv
  obtain ⟨q, d, rfl, -, -⟩ := hu
  obtain ⟨A, hA⟩ : ∃ A, A = ls.length := ⟨_, rfl⟩
  obtain ⟨N, hN⟩ : ∃ N, N = bs.length := ⟨_, rfl⟩
  rw [← hA] at HV ha ⊢
  rw [← hN] at HU hb ⊢
  have HA := hide hA
  have HN := hide hN
  clear hA hN
  go_enter Try.func13, Try.ntmps13
  go_wp2_with fail
  go_loopg [5, 6] N (fun g v5 v6 wr => ∃ (j m cp : Nat) (r : Option Addr) (R : List ByteArray), j + g = N ∧ v6 = .int .i64 (j : Int) ∧ v5 = .slice r m cp ∧ Hid (StrNe wr (.slice r m cp) R ∧ Ri (R.map bl) (fun y => y ∈ (bs.take j).map bl ∧ y ∉ ls.map bl) ∧ R.length ≤ j ∧ Below w.heap.size w wr))
  case atStart => exact ⟨0, 0, 0, none, [], by omega, rfl, rfl, hide ⟨strNe_nil _, Ri.nil.to (fun x => by simp), Nat.le_refl _, Below.refl _ _⟩⟩
  case round =>
    obtain ⟨j, m, cp, r, R, hj, rfl, rfl, HR⟩ := hrel
    by_cases hlt : j < N
    · have hja : j < bs.length := by have := HN.out; omega
      have hga : bs[j]? = some bs[j] := List.getElem?_eq_getElem hja
      generalize bs[j] = x at hga
      obtain ⟨b1, o1, hp1, k1⟩ := strArg_cell (HU.out.below HR.out.2.2.2) hga
      subst hp1
      have HG := hide hga
      clear hga hja
      obtain ⟨D, hD⟩ : ∃ D, D = decide (bl x ∈ ls.map bl) := ⟨_, rfl⟩
      have CH := hide (has_any _ ls x (by have := HA.out; omega) wr (HV.out.below HR.out.2.2.2) D hD)
      have HD := hide hD
      clear hD
      go_wp2_with fail
      refine CH.out.mono ?_
      rintro e w2 ⟨rfl, hb2⟩
      have HB2 := hide hb2
      have k2 := cell_keep k1 hb2
      clear hb2 CH k1
      cases hDD : D with
      | true =>
        subst hDD
        have HRT : Hid (Ri (R.map bl) (fun y => y ∈ (bs.take (j + 1)).map bl ∧ y ∉ ls.map bl)) := hide (HR.out.2.1.to (fun y => by
          rw [mem_take HG.out]
          constructor
          · rintro ⟨h1, h2⟩
            exact ⟨.inr h1, h2⟩
          · rintro ⟨rfl | h1, h2⟩
            · exact absurd (of_decide_eq_true HD.out.symm) h2
            · exact ⟨h1, h2⟩))
        go_wp2_with fail
        go_roundg (N - (j + 1))
        case measure => omega
        case rel => exact ⟨j + 1, m, cp, r, R, by omega, rfl, rfl, hide ⟨HR.out.1.below HB2.out, HRT.out, by have := HR.out.2.2.1; omega, bel2 HR.out.2.2.2 HB2.out⟩⟩
      | false =>
        subst hDD
        have CP := hide (put_any _ R x (by have := HR.out.2.2.1; omega) w2 (HR.out.1.below HB2.out))
        go_wp2_with fail
        refine CP.out.mono ?_
        rintro e w3 ⟨⟨v', R', rfl, hn, hm⟩, hb3⟩
        obtain ⟨r', m', cp', rfl⟩ := strNe_shape hn
        have HRT : Hid (Ri (R'.map bl) (fun y => y ∈ (bs.take (j + 1)).map bl ∧ y ∉ ls.map bl)) := hide (by
          rw [hm]
          refine (HR.out.2.1.put (bl x)).to (fun y => ?_)
          rw [mem_take HG.out]
          constructor
          · rintro (rfl | ⟨h1, h2⟩)
            · exact ⟨.inl rfl, of_decide_eq_false HD.out.symm⟩
            · exact ⟨.inr h1, h2⟩
          · rintro ⟨h1 | h1, h2⟩
            · exact .inl h1
            · exact .inr ⟨h1, h2⟩)
        have HL : Hid (R'.length ≤ j + 1) := hide (by
          have h1 := congrArg List.length hm
          have h2 := put_len (R.map bl) (bl x)
          have h3 := HR.out.2.2.1
          rw [List.length_map] at h1 h2
          omega)
        have HN3 := hide hn
        have HB3 := hide (bel2 (bel2 HR.out.2.2.2 HB2.out) hb3)
        clear hn hm hb3 CP
        go_wp2_with fail
        go_roundg (N - (j + 1))
        case measure => omega
        case rel => exact ⟨j + 1, m', cp', r', R', by omega, rfl, rfl, hide ⟨HN3.out, HRT.out, HL.out, HB3.out⟩⟩
    · have hd : decide ((j : Int) < (N : Int)) = false := decide_eq_false (by omega)
      have HRT : Hid (Ri (R.map bl) (fun y => y ∈ bs.map bl ∧ y ∉ ls.map bl)) := hide (by
        have h := HR.out.2.1
        rw [List.take_of_length_le (by have := HN.out; omega)] at h
        exact h)
      go_wp2_with fail
      go_ret
      exact ⟨⟨_, R, rfl, HR.out.1, HRT.out⟩, HR.out.2.2.2⟩

set_option maxRecDepth 100000 in
set_option maxHeartbeats 8000000 in
theorem mjoin_any (v u : Value) (ls bs : List ByteArray) (ha : ls.length ≤ 100000) (hb : bs.length ≤ 100000) (w : World) (hv : StrArg w v ls) (hu : StrArg w u bs) :
    Calls Try.prog 15 #[v, u] w fun e w' => RowQ w' (fun y => y ∈ ls.map bl ∨ y ∈ bs.map bl) e ∧ Below w.heap.size w w' := by
  have HV := hide hv
  have HU := hide hu
  obtain ⟨p, c, rfl, -, -⟩ := hv
  obtain ⟨q, d, rfl, -, -⟩ := hu
  obtain ⟨A, hA⟩ : ∃ A, A = ls.length := ⟨_, rfl⟩
  obtain ⟨N, hN⟩ : ∃ N, N = bs.length := ⟨_, rfl⟩
  rw [← hA] at HV ha ⊢
  rw [← hN] at HU hb ⊢
  have HA := hide hA
  have HN := hide hN
  clear hA hN
  go_enter Try.func15, Try.ntmps15
  go_wp2_with fail
  go_loopg [5, 6] A (fun g v5 v6 wr => ∃ (j m cp : Nat) (r : Option Addr) (R : List ByteArray), j + g = A ∧ v6 = .int .i64 (j : Int) ∧ v5 = .slice r m cp ∧ Hid (StrNe wr (.slice r m cp) R ∧ Ri (R.map bl) (fun y => y ∈ (ls.take j).map bl) ∧ R.length ≤ j ∧ Below w.heap.size w wr))
  case atStart => exact ⟨0, 0, 0, none, [], by omega, rfl, rfl, hide ⟨strNe_nil _, Ri.nil.to (fun x => by simp), Nat.le_refl _, Below.refl _ _⟩⟩
  case round =>
    obtain ⟨j, m, cp, r, R, hj, rfl, rfl, HR⟩ := hrel
    by_cases hlt : j < A
    · have hja : j < ls.length := by have := HA.out; omega
      have hga : ls[j]? = some ls[j] := List.getElem?_eq_getElem hja
      generalize ls[j] = x at hga
      obtain ⟨b1, o1, hp1, k1⟩ := strArg_cell (HV.out.below HR.out.2.2.2) hga
      subst hp1
      have HG := hide hga
      clear hga hja
      have CP := hide (put_any _ R x (by have := HR.out.2.2.1; omega) wr HR.out.1)
      go_wp2_with fail
      refine CP.out.mono ?_
      rintro e w3 ⟨⟨v', R', rfl, hn, hm⟩, hb3⟩
      obtain ⟨r', m', cp', rfl⟩ := strNe_shape hn
      have HRT : Hid (Ri (R'.map bl) (fun y => y ∈ (ls.take (j + 1)).map bl)) := hide (by
        rw [hm]
        refine (HR.out.2.1.put (bl x)).to (fun y => ?_)
        rw [mem_take HG.out])
      have HL : Hid (R'.length ≤ j + 1) := hide (by
        have h1 := congrArg List.length hm
        have h2 := put_len (R.map bl) (bl x)
        have h3 := HR.out.2.2.1
        rw [List.length_map] at h1 h2
        omega)
      have HN3 := hide hn
      have HB3 := hide (bel2 HR.out.2.2.2 hb3)
      clear hn hm hb3 CP
      go_wp2_with fail
      go_roundg (A - (j + 1))
      case measure => omega
      case rel => exact ⟨j + 1, m', cp', r', R', by omega, rfl, rfl, hide ⟨HN3.out, HRT.out, by have := HL.out; omega, HB3.out⟩⟩
    · have hd : decide ((j : Int) < (A : Int)) = false := decide_eq_false (by omega)
      have HR1 : Hid (StrNe wr (.slice r m cp) R ∧ Ri (R.map bl) (fun y => y ∈ ls.map bl ∨ y ∈ (bs.take 0).map bl) ∧ R.length ≤ A + 0 ∧ Below w.heap.size w wr) := hide (by
        have h := HR.out.2.1
        rw [List.take_of_length_le (by have := HA.out; omega)] at h
        exact ⟨HR.out.1, h.to (fun y => by simp), by have := HR.out.2.2.1; omega, HR.out.2.2.2⟩)
      clear HR
      go_wp2_with fail
      go_loopg [5, 7] N (fun g v5 v7 wr => ∃ (j m cp : Nat) (r : Option Addr) (R : List ByteArray), j + g = N ∧ v7 = .int .i64 (j : Int) ∧ v5 = .slice r m cp ∧ Hid (StrNe wr (.slice r m cp) R ∧ Ri (R.map bl) (fun y => y ∈ ls.map bl ∨ y ∈ (bs.take j).map bl) ∧ R.length ≤ A + j ∧ Below w.heap.size w wr))
      case atStart => exact ⟨0, m, cp, r, R, by omega, rfl, rfl, hide ⟨HR1.out.1, HR1.out.2.1, HR1.out.2.2.1, HR1.out.2.2.2⟩⟩
      case round =>
        obtain ⟨j, m, cp, r, R, hj, rfl, rfl, HR⟩ := hrel
        by_cases hlt : j < N
        · have hja : j < bs.length := by have := HN.out; omega
          have hga : bs[j]? = some bs[j] := List.getElem?_eq_getElem hja
          generalize bs[j] = x at hga
          obtain ⟨b1, o1, hp1, k1⟩ := strArg_cell (HU.out.below HR.out.2.2.2) hga
          subst hp1
          have HG := hide hga
          clear hga hja
          have CP := hide (put_any _ R x (by have := HR.out.2.2.1; omega) wr HR.out.1)
          go_wp2_with fail
          refine CP.out.mono ?_
          rintro e w3 ⟨⟨v', R', rfl, hn, hm⟩, hb3⟩
          obtain ⟨r', m', cp', rfl⟩ := strNe_shape hn
          have HRT : Hid (Ri (R'.map bl) (fun y => y ∈ ls.map bl ∨ y ∈ (bs.take (j + 1)).map bl)) := hide (by
            rw [hm]
            refine (HR.out.2.1.put (bl x)).to (fun y => ?_)
            rw [mem_take HG.out]
            constructor
            · intro h
              rcases h with h | h
              · exact .inr (.inl h)
              · exact h.elim .inl (fun h => .inr (.inr h))
            · intro h
              exact h.elim (fun h => .inr (.inl h)) (fun h => h.elim .inl (fun h => .inr (.inr h))))
          have HL : Hid (R'.length ≤ A + j + 1) := hide (by
            have h1 := congrArg List.length hm
            have h2 := put_len (R.map bl) (bl x)
            have h3 := HR.out.2.2.1
            rw [List.length_map] at h1 h2
            omega)
          have HN3 := hide hn
          have HB3 := hide (bel2 HR.out.2.2.2 hb3)
          clear hn hm hb3 CP
          go_wp2_with fail
          go_roundg (N - (j + 1))
          case measure => omega
          case rel => exact ⟨j + 1, m', cp', r', R', by omega, rfl, rfl, hide ⟨HN3.out, HRT.out, by have := HL.out; omega, HB3.out⟩⟩
        · have hd : decide ((j : Int) < (N : Int)) = false := decide_eq_false (by omega)
          have HRT : Hid (Ri (R.map bl) (fun y => y ∈ ls.map bl ∨ y ∈ bs.map bl)) := hide (by
            have h := HR.out.2.1
            rw [List.take_of_length_le (by have := HN.out; omega)] at h
            exact h)
          go_wp2_with fail
          go_ret
          exact ⟨⟨_, R, rfl, HR.out.1, HRT.out⟩, HR.out.2.2.2⟩
end Go.Proofs.Ytddphbbmccfblaa
