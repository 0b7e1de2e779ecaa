/-
  The document's ends: where a raw element's text ends.
-/
import Derived.Test.YtjmgcdeinjamiaaDoorY4
import Derived.Test.YtjmgcdeinjamiaaDoorX6
namespace Go.Proofs.YtjmgcdeinjamiaaDoor
open Go.RowKit
open Utf1

theorem rawStop_no (n : List UInt8) (c : UInt8) (t : List UInt8) (h : rawEnds n (c :: t) = false) : rawStop n (c :: t) = rawStop n t + 1 := by
  rw [rawStop, if_neg (by rw [h]; decide)]
theorem rawStop_yes (n : List UInt8) (c : UInt8) (t : List UInt8) (h : rawEnds n (c :: t) = true) : rawStop n (c :: t) = 0 := by
  rw [rawStop, if_pos h]
theorem isNm_or (c : UInt8) : isNm c = (isBl c || decide (c = 47) || decide (c = 62)) := rfl

set_option maxHeartbeats 16000000 in
theorem ends_any (s : ByteArray) (p : Nat) (nm : ByteArray) (hp : p ≤ s.size) (hs : s.size ≤ 100000) (hn : nm.size ≤ 100000) (w : World) :
    Calls Tryd.prog 29 #[.string s, .int .i64 (p : Int), .string nm] w fun e w' => e = .returned (.int .i64 ((p + rawLen (bl nm) ((bl s).drop p) : Nat) : Int)) ∧ Below w.heap.size w w' := by
  have q0 := eq_lit nm [112, 108, 97, 105, 110, 116, 101, 120, 116]
  obtain ⟨R, hR⟩ : ∃ R, R = p + rawLen (bl nm) ((bl s).drop p) := ⟨_, rfl⟩
  rw [← hR]
  by_cases hpl : bl nm = [112, 108, 97, 105, 110, 116, 101, 120, 116]
  · rw [decide_eq_true hpl] at q0
    have q1 : (nm.toList != [112, 108, 97, 105, 110, 116, 101, 120, 116]) = false := by
      show (!(nm.toList == [112, 108, 97, 105, 110, 116, 101, 120, 116])) = false
      rw [q0]
      rfl
    have hRs : R = s.size := by
      rw [hR]
      unfold rawLen
      rw [if_pos (show bl nm = plainText from hpl), List.length_drop, bl_len]
      omega
    clear hpl hR
    subst hRs
    by_cases hlt : p < s.size
    · have hd : decide ((p : Int) < (s.size : Int)) = true := decide_eq_true (by omega)
      go_enter Tryd.func29, Tryd.ntmps29
      go_wp2_with fail
      go_loopg [1] 0 (fun g v wr => v = .int .i64 (p : Int) ∧ wr = w)
      case atStart => exact ⟨rfl, rfl⟩
      case round =>
        obtain ⟨rfl, rfl⟩ := hrel
        go_wp2_with fail
        go_ret
        exact ⟨rfl, Below.refl _ _⟩
    · have hd : decide ((p : Int) < (s.size : Int)) = false := decide_eq_false (by omega)
      go_enter Tryd.func29, Tryd.ntmps29
      go_wp2_with fail
      go_loopg [1] 0 (fun g v wr => v = .int .i64 (p : Int) ∧ wr = w)
      case atStart => exact ⟨rfl, rfl⟩
      case round =>
        obtain ⟨rfl, rfl⟩ := hrel
        go_wp2_with fail
        go_ret
        exact ⟨rfl, Below.refl _ _⟩
  rw [decide_eq_false hpl] at q0
  have q1 : (nm.toList != [112, 108, 97, 105, 110, 116, 101, 120, 116]) = true := by
    show (!(nm.toList == [112, 108, 97, 105, 110, 116, 101, 120, 116])) = true
    rw [q0]
    rfl
  replace hR : R = p + rawStop (bl nm) ((bl s).drop p) := by
    rw [hR]
    unfold rawLen
    rw [if_neg (show bl nm ≠ plainText from hpl)]
  clear hpl
  go_enter Tryd.func29, Tryd.ntmps29
  go_wp2_with fail
  go_loopg [1] (s.size - p) (fun g v wr => ∃ q : Nat, q + g = s.size ∧ v = .int .i64 (q : Int) ∧ Hid (Below w.heap.size w wr) ∧ Hid (R = q + rawStop (bl nm) ((bl s).drop q)))
  case atStart => exact ⟨p, by omega, rfl, hide (Below.refl _ _), hide hR⟩
  case round =>
    obtain ⟨q, hqg, rfl, HBE, HR⟩ := hrel
    clear hR
    by_cases hlt : q < s.size
    case neg =>
      have hRq : R = s.size := by
        rw [HR.out, drop_end hlt]
        show q + 0 = _
        omega
      subst hRq
      have hd : decide ((q : Int) < (s.size : Int)) = false := decide_eq_false (by omega)
      clear HR
      go_wp2_with fail
      go_ret
      exact ⟨rfl, HBE.out⟩
    have hd : decide ((q : Int) < (s.size : Int)) = true := decide_eq_true (by omega)
    obtain ⟨c0, hc0, -⟩ := dropc hlt
    have hlen : ((bl s).drop q).length = s.size - q := by rw [List.length_drop, bl_len]
    have hbg := fun w => rbegins_any s q ⟨#[60, 47]⟩ (by omega) hs (by decide) w
    have hRE : rawEnds (bl nm) ((bl s).drop q) = ([60, 47].isPrefixOf ((bl s).drop q) && decide (2 + nm.size < s.size - q) && decide (lower ((((bl s).drop q).drop 2).take nm.size) = bl nm) && isNm (((bl s).drop q).getD (2 + nm.size) 0)) := by
      unfold rawEnds
      rw [hlen, bl_len]
    have HNO : Hid (rawEnds (bl nm) ((bl s).drop q) = false → R = (q + 1) + rawStop (bl nm) ((bl s).drop (q + 1))) := hide (by
      intro h
      rw [HR.out, hc0, rawStop_no _ _ _ (by rw [← hc0]; exact h)]
      omega)
    have HYES : Hid (rawEnds (bl nm) ((bl s).drop q) = true → R = q) := hide (by
      intro h
      rw [HR.out, hc0, rawStop_yes _ _ _ (by rw [← hc0]; exact h)]
      rfl)
    have hbg : ∀ w, Calls Tryd.prog 47 #[.string s, .int .i64 (q : Int), .string ⟨#[60, 47]⟩] w fun e w' => e = .returned (.bool ([60, 47].isPrefixOf ((bl s).drop q))) ∧ w' = w := hbg
    clear HR hc0 hlen
    cases hb1 : [60, 47].isPrefixOf ((bl s).drop q) with
    | false =>
      rw [hb1] at hbg hRE
      have HR2 := hide (HNO.out hRE)
      have HBG := hide hbg
      clear hRE HNO HYES hbg hb1
      go_wp2_with fail
      refine (HBG.out _).mono ?_
      rintro e w1 ⟨rfl, rfl⟩
      go_wp2_with fail
      go_roundg (gk - 1)
      case measure => omega
      case rel => exact ⟨q + 1, by omega, by first | rfl | (rw [wrap64_in _ ⟨by omega, by omega⟩]; rfl) | simp, HBE, HR2⟩
    | true =>
    rw [hb1] at hbg hRE
    have HBG := hide hbg
    clear hbg hb1
    by_cases hk : 2 + nm.size < s.size - q
    case neg =>
      rw [decide_eq_false hk] at hRE
      have HR2 := hide (HNO.out hRE)
      have hd2 : decide ((q : Int) + 2 + (nm.size : Int) < (s.size : Int)) = false := decide_eq_false (by omega)
      clear hRE HNO HYES
      go_wp2_with fail
      refine (HBG.out _).mono ?_
      rintro e w1 ⟨rfl, rfl⟩
      go_wp2_with fail
      go_roundg (gk - 1)
      case measure => omega
      case rel => exact ⟨q + 1, by omega, by first | rfl | (rw [wrap64_in _ ⟨by omega, by omega⟩]; rfl) | simp, HBE, HR2⟩
    rw [decide_eq_true hk] at hRE
    have hd2 : decide ((q : Int) + 2 + (nm.size : Int) < (s.size : Int)) = true := decide_eq_true (by omega)
    have hx : bl (s.extract (q + 2) (q + 2 + nm.size)) = (((bl s).drop q).drop 2).take nm.size := by
      rw [ext_mid, Nat.add_sub_cancel_left]
      show ((bl s).drop (q + 2)).take nm.size = _
      rw [List.drop_drop]
    have hxs : (s.extract (q + 2) (q + 2 + nm.size)).size ≤ 100000 := by
      rw [← bl_len, hx, List.length_take]
      omega
    have hlw := fun w => Doc.rlower_any (s.extract (q + 2) (q + 2 + nm.size)) w hxs
    rw [hx] at hlw
    obtain ⟨L, hL⟩ : ∃ L : ByteArray, L = ⟨(lower ((((bl s).drop q).drop 2).take nm.size)).toArray⟩ := ⟨_, rfl⟩
    rw [← hL] at hlw
    have hLb : bl L = lower ((((bl s).drop q).drop 2).take nm.size) := by rw [hL]
    rw [← hLb] at hRE
    have y0 : (L.toList == nm.toList) = decide (bl L = bl nm) := by
      rw [ByteArray.toList_eq, ByteArray.toList_eq]
      by_cases h : bl L = bl nm
      · rw [decide_eq_true h]
        exact beq_iff_eq.2 h
      · rw [decide_eq_false h]
        exact beq_eq_false_iff_ne.2 h
    have HLW := hide hlw
    clear hlw hL hLb hx hxs
    by_cases hl : bl L = bl nm
    case neg =>
      rw [decide_eq_false hl] at y0 hRE
      have HR2 := hide (HNO.out (by rw [hRE]; simp))
      clear hRE HNO HYES hl
      go_wp2_with fail
      refine (HBG.out _).mono ?_
      rintro e w1 ⟨rfl, rfl⟩
      go_wp2_with fail
      refine (HLW.out _).mono ?_
      rintro e w2 ⟨rfl, hb2⟩
      have HB2 := hide (bel2 HBE.out hb2)
      clear hb2
      go_wp2_with fail
      go_roundg (gk - 1)
      case measure => omega
      case rel => exact ⟨q + 1, by omega, by first | rfl | (rw [wrap64_in _ ⟨by omega, by omega⟩]; rfl) | simp, HB2, HR2⟩
    rw [decide_eq_true hl] at y0 hRE
    have hkl : q + 2 + nm.size < s.size := by omega
    obtain ⟨c, -, hge⟩ := dropc hkl
    have hcg : ((bl s).drop q).getD (2 + nm.size) 0 = c := by
      rw [List.getD_eq_getElem?_getD, List.getElem?_drop, show q + (2 + nm.size) = q + 2 + nm.size by omega, hge]
      rfl
    rw [hcg, isNm_or] at hRE
    have i0 : ∀ w, (Instr.index 9 (.string s) (.int .i64 ((q : Int) + 2 + (nm.size : Int)))).run Tryd.prog w = .ok (.int .u8 (c.toNat : Int)) w := by
      intro w
      have := idxK hge w
      rw [show ((q + 2 + nm.size : Nat) : Int) = (q : Int) + 2 + (nm.size : Int) by omega] at this
      exact this
    have hbl := fun w => blank_any c w
    have m47 : ((c.toNat : Int) == 47) = decide (c = 47) := beqK c 47 (by decide)
    have m62 : ((c.toNat : Int) == 62) = decide (c = 62) := beqK c 62 (by decide)
    obtain ⟨z, hz⟩ : ∃ z : Int, z = (c.toNat : Int) := ⟨_, rfl⟩
    rw [← hz] at i0 hbl m47 m62
    clear hz hge hcg hl hk
    cases hbc : isBl c with
    | true =>
      rw [hbc] at hbl hRE
      have hRq := HYES.out (by rw [hRE]; simp)
      subst hRq
      have HBL := hide hbl
      clear hRE HNO HYES hbl hbc m47 m62
      go_wp2_with fail
      refine (HBG.out _).mono ?_
      rintro e w1 ⟨rfl, rfl⟩
      go_wp2_with fail
      refine (HLW.out _).mono ?_
      rintro e w2 ⟨rfl, hb2⟩
      have HB2 := hide (bel2 HBE.out hb2)
      clear hb2
      go_wp2_with fail
      refine (HBL.out _).mono ?_
      rintro e w3 ⟨rfl, rfl⟩
      go_wp2_with fail
      go_ret
      exact ⟨rfl, HB2.out⟩
    | false =>
    rw [hbc] at hbl hRE
    have HBL := hide hbl
    clear hbl hbc
    by_cases h47 : c = 47
    · rw [decide_eq_true h47] at m47 hRE
      have hRq := HYES.out (by rw [hRE]; simp)
      subst hRq
      clear hRE HNO HYES m62 h47
      go_wp2_with fail
      refine (HBG.out _).mono ?_
      rintro e w1 ⟨rfl, rfl⟩
      go_wp2_with fail
      refine (HLW.out _).mono ?_
      rintro e w2 ⟨rfl, hb2⟩
      have HB2 := hide (bel2 HBE.out hb2)
      clear hb2
      go_wp2_with fail
      refine (HBL.out _).mono ?_
      rintro e w3 ⟨rfl, rfl⟩
      go_wp2_with fail
      go_ret
      exact ⟨rfl, HB2.out⟩
    rw [decide_eq_false h47] at m47 hRE
    by_cases h62 : c = 62
    · rw [decide_eq_true h62] at m62 hRE
      have hRq := HYES.out (by rw [hRE]; simp)
      subst hRq
      clear hRE HNO HYES h47 h62
      go_wp2_with fail
      refine (HBG.out _).mono ?_
      rintro e w1 ⟨rfl, rfl⟩
      go_wp2_with fail
      refine (HLW.out _).mono ?_
      rintro e w2 ⟨rfl, hb2⟩
      have HB2 := hide (bel2 HBE.out hb2)
      clear hb2
      go_wp2_with fail
      refine (HBL.out _).mono ?_
      rintro e w3 ⟨rfl, rfl⟩
      go_wp2_with fail
      go_ret
      exact ⟨rfl, HB2.out⟩
    rw [decide_eq_false h62] at m62 hRE
    have HR2 := hide (HNO.out (by rw [hRE]; simp))
    clear hRE HNO HYES h47 h62
    go_wp2_with fail
    refine (HBG.out _).mono ?_
    rintro e w1 ⟨rfl, rfl⟩
    go_wp2_with fail
    refine (HLW.out _).mono ?_
    rintro e w2 ⟨rfl, hb2⟩
    have HB2 := hide (bel2 HBE.out hb2)
    clear hb2
    go_wp2_with fail
    refine (HBL.out _).mono ?_
    rintro e w3 ⟨rfl, rfl⟩
    go_wp2_with fail
    go_roundg (gk - 1)
    case measure => omega
    case rel => exact ⟨q + 1, by omega, by first | rfl | (rw [wrap64_in _ ⟨by omega, by omega⟩]; rfl) | simp, HB2, HR2⟩
end Go.Proofs.YtjmgcdeinjamiaaDoor
