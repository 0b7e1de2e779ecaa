/-
  The law FlogMany, walked.
-/
import Derived.Test.YtipebinjdicnfaaFW4
import Derived.Deep.LoopGhost
namespace Go.Proofs.Ytipebinjdicnfaa
open Go.RowKit

set_option maxHeartbeats 4000000 in
theorem many_walk (p : Option Addr) (N cap : Nat) (ts : List ByteArray) (w : World) (h : StrArg w (.slice p N cap) ts) :
    Calls Try.prog 8 #[.slice p N cap] w fun e w' => e = .returned (.bool true) ∧ Below w.heap.size w w' := by
  have HROW := hide h
  have hN : N = ts.length := by
    obtain ⟨_, _, e, _⟩ := h
    injection e
  have HN := hide hN
  clear h hN
  by_cases h2 : (40 : Int) < (N : Int)
  · have e2 : decide ((40 : Int) < (N : Int)) = true := by simpa using h2
    clear h2
    go_enter Try.func8, Try.ntmps8
    go_wp2_with fail
    refine (awake_any w).mono ?_
    rintro e w1 ⟨rfl, hb1⟩
    have HB1 := hide hb1
    clear hb1
    go_wp2_with fail
    refine (fnew w1 w.heap.size HB1.out.size).mono ?_
    rintro e w2 ⟨rfl, -, ha2⟩
    have HB2 := hide (HB1.out.trans ha2.below)
    clear ha2
    go_wp2_with fail
    go_ret
    exact ⟨rfl, HB2.out⟩
  have e2 : decide ((40 : Int) < (N : Int)) = false := by simpa using h2
  have H40 : Hid (N ≤ 40) := hide (by omega)
  clear h2
  go_enter Try.func8, Try.ntmps8
  go_wp2_with fail
  refine (awake_any w).mono ?_
  rintro e w1 ⟨rfl, hb1⟩
  have HB1 := hide hb1
  clear hb1
  go_wp2_with fail
  refine (fnew w1 w.heap.size HB1.out.size).mono ?_
  rintro e w2 ⟨rfl, hd2, ha2⟩
  have HD2 := hide hd2
  have HA2 := hide ((Aft.of HB1.out (Nat.le_refl _)).trans ha2)
  clear ha2 hd2
  go_wp2_with fail
  refine (fopen HD2.out [] ⟨[], 0, -1, false⟩ (opn_all rfl Rd.nil)).mono ?_
  rintro e w3 ⟨⟨L, vp, vc, rfl, hl3, _⟩, hd3, ha3⟩
  have HI3 : Hid (FD w3 w.heap.size w1.heap.size ⟨frs (ts.take 0), 0, -1, false⟩ ∧ LogB w3 L w1.heap.size ∧ Below w.heap.size w w3 ∧ (∀ t ∈ ts.take 0, t.size ≤ 1000) ∧ (frs (ts.take 0)).length ≤ 1003 * 0) := hide ⟨hd3, hl3, HA2.out.below.trans ha3.below, by simp, Nat.le_refl _⟩
  clear hd3 ha3 hl3
  go_wp2_with fail
  go_loopg [8, 9] N (fun g v8 v9 wr => ∃ i : Nat, i + g = N ∧ v9 = .int .i64 (i : Int) ∧ v8 = .int .i64 ((frs (ts.take i)).length : Int) ∧ Hid (FD wr w.heap.size w1.heap.size ⟨frs (ts.take i), 0, -1, false⟩ ∧ LogB wr L w1.heap.size ∧ Below w.heap.size w wr ∧ (∀ t ∈ ts.take i, t.size ≤ 1000) ∧ (frs (ts.take i)).length ≤ 1003 * i))
  case atStart => exact ⟨0, by omega, rfl, rfl, HI3⟩
  case round =>
    obtain ⟨i, hi, rfl, rfl, HI⟩ := hrel
    clear HI3 HA2 HD2
    obtain ⟨FL, hFL⟩ : ∃ FL, FL = (frs (ts.take i)).length := ⟨_, rfl⟩
    rw [← hFL]
    have HFL := hide hFL
    have hF2 : FL ≤ 60000 := by have := HI.out.2.2.2.2; have := H40.out; omega
    clear hFL
    by_cases hlt : i < N
    · have hd : decide ((i : Int) < (N : Int)) = true := decide_eq_true (by omega)
      have h40 : N ≤ 40 := H40.out
      have hja : i < ts.length := by have := HN.out; omega
      have hga : ts[i]? = some ts[i] := List.getElem?_eq_getElem hja
      generalize ts[i] = x at hga
      obtain ⟨p1, c1, e1, -, hc1⟩ := HROW.out
      injection e1 with e1 e1a e1b
      clear e1a e1b
      obtain ⟨b1, o1, hp1, k1⟩ := hc1 i x hga
      rw [← e1] at hp1
      subst hp1
      have KC : Hid (∀ wx, Below w.heap.size w wx → wx.cell? ⟨b1, o1 + i, none⟩ = some (.string x)) := hide (fun wx hx => cell_keep k1 hx)
      have c1 := KC.out _ HI.out.2.2.1
      have HGA := hide hga
      clear e1 hc1 hga hja k1
      by_cases hx : (1000 : Int) < (x.size : Int)
      · have d1 : decide ((1000 : Int) < (x.size : Int)) = true := by simpa using hx
        clear hx
        go_wp2_with fail
        go_ret
        exact ⟨rfl, HI.out.2.2.1⟩
      · have d1 : decide ((1000 : Int) < (x.size : Int)) = false := by simpa using hx
        have HX : Hid (x.size ≤ 1000) := hide (by omega)
        have HTK : Hid (ts.take (i + 1) = ts.take i ++ [x]) := hide (by rw [List.take_add_one, HGA.out]; rfl)
        have HFR : Hid (frs (ts.take i) ++ fr x = frs (ts.take (i + 1))) := hide (by rw [HTK.out, frs_app, frs_one])
        have hx2 : x.size ≤ 1000 := HX.out
        clear hx
        go_wp2_with fail
        refine (fput HI.out.1 HI.out.2.1 x (⟨frs (ts.take (i + 1)), 0, -1, false⟩, 0) (by rw [put_ok _ _ _ (by omega) (by have := HI.out.2.2.2.2; have := H40.out; omega), HFR.out])).mono ?_
        rintro e w5 ⟨rfl, hd5, ha5⟩
        have HLN : Hid ((frs (ts.take (i + 1))).length = FL + 3 + x.size) := hide (by rw [← HFR.out, List.length_append, fr_len, ← HFL.out]; omega)
        have HI5 : Hid (FD w5 w.heap.size w1.heap.size ⟨frs (ts.take (i + 1)), 0, -1, false⟩ ∧ LogB w5 L w1.heap.size ∧ Below w.heap.size w w5 ∧ (∀ t ∈ ts.take (i + 1), t.size ≤ 1000) ∧ (frs (ts.take (i + 1))).length ≤ 1003 * (i + 1)) := hide ⟨hd5, ha5.log _ _ HI.out.2.1, HI.out.2.2.1.trans ha5.below, fun t ht => by
          rw [HTK.out] at ht
          rcases List.mem_append.1 ht with ht | ht
          · exact HI.out.2.2.2.1 t ht
          · rw [List.mem_singleton.1 ht]; exact hx2, by
          rw [HLN.out, HFL.out]
          have := HI.out.2.2.2.2
          omega⟩
        have c2 := KC.out _ HI5.out.2.2.1
        clear hd5 ha5 c1 HI
        go_wp2_with fail
        refine (fsize HI5.out.1 HI5.out.2.1).mono ?_
        rintro e w6 ⟨rfl, hd6, hb6⟩
        have HI6 : Hid (FD w6 w.heap.size w1.heap.size ⟨frs (ts.take (i + 1)), 0, -1, false⟩ ∧ LogB w6 L w1.heap.size ∧ Below w.heap.size w w6 ∧ (∀ t ∈ ts.take (i + 1), t.size ≤ 1000) ∧ (frs (ts.take (i + 1))).length ≤ 1003 * (i + 1)) := hide ⟨hd6, log_below HI5.out.2.1 hb6, HI5.out.2.2.1.trans (hb6.mono HI5.out.1.size), HI5.out.2.2.2⟩
        have hz : (((⟨frs (ts.take (i + 1)), 0, -1, false⟩ : Dv).all.length : Nat) : Int) = (FL : Int) + 3 + (x.size : Int) := by show (((frs (ts.take (i + 1))).length : Nat) : Int) = _; rw [HLN.out]; omega
        rw [hz]
        clear hd6 hb6 hz HI5 c2
        go_wp2_with fail
        go_roundg (N - (i + 1))
        case measure => omega
        case rel => exact ⟨i + 1, by omega, rfl, by rw [HLN.out]; congr 1, HI6⟩
    · have hd : decide ((i : Int) < (N : Int)) = false := decide_eq_false (by omega)
      have hiN : i = ts.length := by have := HN.out; omega
      have HT : Hid (ts.take i = ts) := hide (by rw [hiN, List.take_length])
      have HI7 := HI.out
      rw [HT.out] at HI7
      have HI8 := hide HI7
      clear hiN HI7 HI
      go_wp2_with fail
      refine (fopen HI8.out.1 ts ⟨frs ts, 0, -1, false⟩ (opn_all rfl (Rd.frs (fun t ht => by have := HI8.out.2.2.2.1 t ht; omega)))).mono ?_
      rintro e w9 ⟨⟨L9, vp9, vc9, rfl, hl9, ho9⟩, hd9, ha9⟩
      have HS9 := hide (own_str ho9)
      have HB9 := hide (HI8.out.2.2.1.trans ha9.below)
      rw [← HN.out] at HS9 ⊢
      clear hl9 ho9 hd9 ha9
      go_wp2_with fail
      refine (same_any w9 _ _ ts ts HS9.out (HROW.out.below HB9.out) (by have := HN.out; have := H40.out; omega) true (by simp)).mono ?_
      rintro e w10 ⟨rfl, hb10⟩
      have HB10 := hide (HB9.out.trans (hb10.mono HB9.out.size))
      clear hb10
      go_wp2_with fail
      go_ret
      exact ⟨rfl, HB10.out⟩
end Go.Proofs.Ytipebinjdicnfaa
