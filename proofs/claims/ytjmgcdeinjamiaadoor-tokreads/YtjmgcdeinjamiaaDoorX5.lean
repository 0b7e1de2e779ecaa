/-
  What the document's One and Resolve answer; the law RefsResolves: it answers true.
-/
import Derived.Test.YtjmgcdeinjamiaaDoorX4
import Derived.Test.YtjmgcdeinjamiaaDoorM3
namespace Go.Proofs.YtjmgcdeinjamiaaDoor.Doc
open Go.RowKit
open Utf1

/-- A reference that may be there, as One answers it. -/
def oneT : Option (Nat × Nat) → ByteArray
  | some (r, _) => ⟨(er r).toArray⟩
  | none => ⟨#[]⟩
def oneN : Option (Nat × Nat) → Nat
  | some (_, k) => k + 1
  | none => 0

theorem refAt_first (t : List UInt8) (i : Nat) (hi : i < t.length) (hno : ∀ j, j < i → t[j]? ≠ some 59) (h : t[i]? = some 59) : refAt t = (sf (t.take i)).map fun r => (r, i + 1) := by
  by_cases h8 : i ≤ 8
  · exact refAt_here t i hi h8 hno h
  · rw [refAt_not t i (by omega) hno]
    cases hs : sf (t.take i) with
    | none => rfl
    | some r =>
      have := (sf_facts hs).2.1
      rw [List.length_take] at this
      omega

set_option maxHeartbeats 4000000 in
theorem one_any (s : ByteArray) (p : Nat) (hp : p < s.size) (hs : s.size ≤ 10000) (w : World) :
    Calls Tryd.prog 49 #[.string s, .int .i64 (p : Int)] w fun e w' => e = .returned (.tuple #[.string (oneT (refAt ((bl s).drop (p + 1)))), .int .i64 (oneN (refAt ((bl s).drop (p + 1))) : Nat)]) ∧ Below w.heap.size w w' := by
  go_enter Tryd.func49, Tryd.ntmps49
  go_wp2
  go_loop [6] (fun v => ∃ (i e : Nat), i ≤ 11 ∧ Hid (e = p + 1 + i) ∧ v = .int .i64 (e : Int) ∧ e ≤ s.size ∧ Hid (∀ j, j < i → ((bl s).drop (p + 1))[j]? ≠ some 59)) (fun v => s.size - (intOf v).toNat)
  case atStart => exact ⟨0, p + 1, by omega, hide rfl, by first | rfl | simp, by omega, hide (by intro j hj; omega)⟩
  case round =>
    obtain ⟨i, e, hi11, HE, rfl, hes, HJ⟩ := hrel
    have hep : p + 1 ≤ e := by have := HE.out; omega
    by_cases hin : e < s.size ∧ i ≤ 10
    · obtain ⟨hel, hi8⟩ := hin
      have he9 : e < p + 12 := by have := HE.out; omega
      have ie := idxk s e hel
      have hge := getE_drop s (p + 1) i (by have := HE.out; omega)
      have hge : ((bl s).drop (p + 1))[i]? = some ((bl s)[e]'(by rw [bl_len]; exact hel)) := by rw [hge]; simp only [HE.out]
      generalize (bl s)[e]'(by rw [bl_len]; exact hel) = c2 at ie hge
      obtain ⟨y, hy⟩ : ∃ y : Int, y = (c2.toNat : Int) := ⟨_, rfl⟩
      rw [← hy] at ie
      have y0 : 0 ≤ y := by omega
      have y1 : y ≤ 255 := by have := c2.toNat_lt; omega
      by_cases h59 : c2 = 59
      · have hy59 : y = 59 := by rw [hy, h59]; rfl
        subst hy59
        subst h59
        have hsz : (s.extract (p + 1) e).size ≤ 10000 := by have := HE.out; simp; omega
        have hsf := fun w => body_any (s.extract (p + 1) e) hsz w
        have hbe : bl (s.extract (p + 1) e) = ((bl s).drop (p + 1)).take i := by rw [extract_bl]; congr 1; have := HE.out; omega
        have href := refAt_first ((bl s).drop (p + 1)) i (by have := HE.out; rw [List.length_drop, bl_len]; omega) HJ.out hge
        rw [hbe] at hsf
        clear hy y0 y1 hge HJ hbe hsz
        cases hsv : sf (((bl s).drop (p + 1)).take i) with
        | some r =>
          rw [hsv] at hsf href
          have href : refAt ((bl s).drop (p + 1)) = some (r, i + 1) := href
          have HREF := hide href
          unfold optS at hsf
          have hsf : ∀ w, Calls Tryd.prog 67 #[.string (s.extract (p + 1) e)] w fun e w' => e = .returned (.tuple #[.string ⟨(er r).toArray⟩, .bool true]) ∧ Below w.heap.size w w' := hsf
          have HT : Hid (oneT (some (r, i + 1)) = ⟨(er r).toArray⟩) := hide rfl
          have HV : Hid (((oneN (some (r, i + 1)) : Nat) : Int) = (e : Int) + 1 - (p : Int)) := hide (by
            show ((i + 1 + 1 : Nat) : Int) = _
            have := HE.out
            omega)
          generalize (⟨(er r).toArray⟩ : ByteArray) = A at hsf HT
          clear href hsv
          go_wp2_with fail
          refine (hsf _).mono ?_
          rintro e1 w1 ⟨rfl, hb1⟩
          go_wp2_with fail
          go_ret2
          rw [HREF.out, HT.out, HV.out]
          exact ⟨rfl, hb1⟩
        | none =>
          rw [hsv] at hsf href
          have href : refAt ((bl s).drop (p + 1)) = none := href
          have HREF := hide href
          unfold optS at hsf
          have hsf : ∀ w, Calls Tryd.prog 67 #[.string (s.extract (p + 1) e)] w fun e w' => e = .returned (.tuple #[.string ⟨#[]⟩, .bool false]) ∧ Below w.heap.size w w' := hsf
          clear href hsv
          go_wp2_with fail
          refine (hsf _).mono ?_
          rintro e1 w1 ⟨rfl, hb1⟩
          go_wp2_with fail
          go_ret2
          rw [HREF.out]
          exact ⟨rfl, hb1⟩
      · have hb59 : (y == 59) = false := beq_eq_false_iff_ne.2 (by
          intro e
          apply h59
          have : c2 = UInt8.ofNat 59 := (u8_eq (by decide)).2 (by omega)
          exact this)
        have HJ2 : Hid (∀ j, j < i + 1 → ((bl s).drop (p + 1))[j]? ≠ some 59) := hide (by
          intro j hj
          by_cases hji : j = i
          · subst hji
            rw [hge]
            intro e
            apply h59
            simpa using e
          · exact HJ.out j (by omega))
        clear hy hge HJ
        go_wp2
        have hE := HE.out
        exact ⟨⟨i + 1, e + 1, by omega, hide (by omega), by first | rfl | simp, by omega, HJ2⟩, by simp [intOf]; omega⟩
    · have href : refAt ((bl s).drop (p + 1)) = none := refAt_not _ i (by have := HE.out; rw [List.length_drop, bl_len]; omega) HJ.out
      have HREF := hide href
      by_cases hel : e < s.size
      · have hi12 : e = p + 12 := by have := HE.out; omega
        have hd9 : ¬ (e : Int) < (p : Int) + 12 := by omega
        clear HJ hin href
        go_wp2_with fail
        go_ret2
        rw [HREF.out]
        exact ⟨rfl, Below.refl _ _⟩
      · clear HJ hin href
        go_wp2_with fail
        go_ret2
        rw [HREF.out]
        exact ⟨rfl, Below.refl _ _⟩

theorem app_bl (a b : ByteArray) : bl (a ++ b) = bl a ++ bl b := by
  show (a ++ b).data.toList = _
  rw [ByteArray.data_append, Array.toList_append]
theorem ba_ext {a b : ByteArray} (h : bl a = bl b) : a = b := by
  cases a
  cases b
  simpa using h

set_option maxHeartbeats 4000000 in
theorem refResolve_any (s : ByteArray) (hs : s.size ≤ 10000) (w : World) :
    Calls Tryd.prog 26 #[.string s] w fun e w' => e = .returned (.string ⟨(res (bl s)).toArray⟩) ∧ Below w.heap.size w w' := by
  go_enter Tryd.func26, Tryd.ntmps26
  go_wp2
  go_loopw [3, 4] (fun v3 v4 wr => ∃ (p : Nat) (acc : ByteArray), v3 = .string acc ∧ v4 = .int .i64 (p : Int) ∧ p ≤ s.size ∧ acc.size ≤ p ∧ Below w.heap.size w wr ∧ Hid (bl acc ++ res ((bl s).drop p) = res (bl s))) (fun _ v4 _ => s.size - (intOf v4).toNat)
  case atStart => exact ⟨0, ⟨#[]⟩, rfl, rfl, by omega, by decide, Below.refl _ _, hide rfl⟩
  case round =>
    obtain ⟨p, acc, rfl, rfl, hp, hal, hbw, HA⟩ := hrel
    by_cases hlt : p < s.size
    · have ip := idxk s p hlt
      have hdc := drop_cons s p hlt
      have hone : bl (s.extract p (p + 1)) = [(bl s)[p]'(by rw [bl_len]; exact hlt)] := by
        rw [extract_bl, hdc, show p + 1 - p = 1 by omega]
        rfl
      have hoz : (s.extract p (p + 1)).size = 1 := by rw [← bl_len, hone]; rfl
      generalize (bl s)[p]'(by rw [bl_len]; exact hlt) = c at ip hdc hone
      obtain ⟨z, hz⟩ : ∃ z : Int, z = (c.toNat : Int) := ⟨_, rfl⟩
      rw [← hz] at ip
      have HON := hide hone
      have z0 : 0 ≤ z := by omega
      have z1 : z ≤ 255 := by have := c.toNat_lt; omega
      by_cases h38 : c = 38
      · have hz38 : z = 38 := by rw [hz, h38]; rfl
        subst hz38
        subst h38
        have hon := fun w => one_any s p hlt hs w
        cases hr : refAt ((bl s).drop (p + 1)) with
        | none =>
          rw [hr] at hon
          have hon : ∀ w, Calls Tryd.prog 49 #[.string s, .int .i64 (p : Int)] w fun e w' => e = .returned (.tuple #[.string ⟨#[]⟩, .int .i64 0]) ∧ Below w.heap.size w w' := hon
          have HN : Hid (bl (acc ++ s.extract p (p + 1)) ++ res ((bl s).drop (p + 1)) = res (bl s)) := hide (by rw [← HA.out, hdc, res_none _ hr, app_bl, hone]; simp)
          have hns : (acc ++ s.extract p (p + 1)).size ≤ p + 1 := by rw [← bl_len, app_bl, List.length_append, bl_len, bl_len]; omega
          clear hr HA hdc hz HON hone
          go_wp2_with fail
          refine (hon _).mono ?_
          rintro e w1 ⟨rfl, hb1⟩
          go_wp2_with fail
          exact ⟨⟨p + 1, _, rfl, by first | rfl | simp, by omega, hns, hbw.trans (hb1.mono hbw.size), HN⟩, by simp [intOf]; omega⟩
        | some q =>
          obtain ⟨r, k⟩ := q
          rw [hr] at hon
          have hon : ∀ w, Calls Tryd.prog 49 #[.string s, .int .i64 (p : Int)] w fun e w' => e = .returned (.tuple #[.string ⟨(er r).toArray⟩, .int .i64 ((k + 1 : Nat) : Int)]) ∧ Below w.heap.size w w' := hon
          have hf := refAt_facts hr
          rw [List.length_drop, bl_len] at hf
          have her := er_len r
          have hA : (⟨(er r).toArray⟩ : ByteArray).size = (er r).length := size_mk _
          have HN : Hid (bl (acc ++ ⟨(er r).toArray⟩) ++ res ((bl s).drop (p + (k + 1))) = res (bl s)) := hide (by
            rw [← HA.out, hdc, res_some _ r k hr, app_bl, List.drop_drop, show p + 1 + k = p + (k + 1) by omega]
            simp)
          have hns : (acc ++ (⟨(er r).toArray⟩ : ByteArray)).size ≤ p + (k + 1) := by rw [← bl_len, app_bl, List.length_append, bl_len, bl_len]; omega
          generalize (⟨(er r).toArray⟩ : ByteArray) = A at hon hA HN hns
          have hA4 : A.size ≤ 4 := by omega
          obtain ⟨m, hm⟩ : ∃ m : Nat, m = k + 1 := ⟨_, rfl⟩
          rw [← hm] at hon HN hns
          have hm1 : 1 ≤ m := by omega
          have hm2 : p + m ≤ s.size := by omega
          have n0 : ((m : Int) == 0) = false := beq_eq_false_iff_ne.2 (by omega)
          clear hr HA hdc hz HON hone hf her hA hm
          go_wp2_with fail
          refine (hon _).mono ?_
          rintro e w1 ⟨rfl, hb1⟩
          go_wp2_with fail
          exact ⟨⟨p + m, _, rfl, by first | rfl | simp, by omega, hns, hbw.trans (hb1.mono hbw.size), HN⟩, by simp [intOf]; omega⟩
      · have hb38 : (z == 38) = false := beq_eq_false_iff_ne.2 (by
          intro e
          apply h38
          have : c = UInt8.ofNat 38 := (u8_eq (by decide)).2 (by omega)
          exact this)
        have HN : Hid (bl (acc ++ s.extract p (p + 1)) ++ res ((bl s).drop (p + 1)) = res (bl s)) := hide (by rw [← HA.out, hdc, res_plain c _ h38, app_bl, hone]; simp)
        have hns : (acc ++ s.extract p (p + 1)).size ≤ p + 1 := by rw [← bl_len, app_bl, List.length_append, bl_len, bl_len]; omega
        clear HA hdc hz HON hone h38
        go_wp2_with fail
        exact ⟨⟨p + 1, _, rfl, by first | rfl | simp, by omega, hns, hbw, HN⟩, by simp [intOf]; omega⟩
    · go_wp2_with fail
      go_ret
      have hacc := HA.out
      rw [drop_all s p hlt, res_nil, List.append_nil] at hacc
      rw [← hacc]
      exact ⟨rfl, hbw⟩

end Go.Proofs.YtjmgcdeinjamiaaDoor.Doc
