/-
  The program's length, cut, begins and fault, walked.
-/
import Derived.Test.YtebcpmgooodmpabGreatDoorR11
import Derived.Test.YtebcpmgooodmpabGreatDoorMZ
import Derived.Test.YtebcpmgooodmpabGreatDoorR10
namespace Go.Proofs.YtebcpmgooodmpabGreatDoor
open Go.RowKit
open Utf1
open Pol8 hiding text right Right
open Msg15

theorem atoi_dec (n : Nat) (h : n ≤ 1000000) : Lib.atoiAll (dec n) = .ok (n : Int) := by
  obtain ⟨h1, h2⟩ := dec_facts n
  have hp := parse_ok (dec n) 0 h1 (by omega)
  rw [h2] at hp
  have hne := Pol8.dec_ne n
  cases hl : dec n with
  | nil => exact absurd hl hne
  | cons c r =>
    rw [hl] at hp h1
    rw [List.all_cons, Bool.and_eq_true] at h1
    have hd := of_decide_eq_true h1.1
    unfold Lib.atoiAll Lib.parseMag
    simp only
    rw [if_neg (show ¬ (c.toNat = 43 ∨ c.toNat = 45) by omega), if_neg (by simp), hp]
    simp only
    rw [if_neg (by omega), if_neg (by omega), if_neg (by omega)]
/-- strconv.Atoi. -/
theorem eatoi_any (s : ByteArray) (hs : s.size ≤ 100000) (w : World) (hge : GlobE w) :
    Calls Tryz.prog 45 #[.string s] w fun e w' => (∃ (n : Int) (ev : Value), e = .returned (.tuple #[.int .i64 n, ev]) ∧ ((Lib.atoiAll (bl s) = .ok n ∧ ev = .nilIface) ∨ ((∀ v, Lib.atoiAll (bl s) ≠ .ok v) ∧ ∃ T N, ev = .iface T (.pointer (some ⟨N, 0, none⟩))))) ∧ Below w.heap.size w w' := by
  cases h : Lib.atoiAll s.data.toList with
  | ok v =>
    refine (Tryz.strconv_Atoi_ok s (by omega) v h w).mono ?_
    rintro e w' ⟨rfl, h2⟩
    refine ⟨⟨v, _, rfl, .inl ⟨rfl, rfl⟩⟩, ?_⟩
    rcases h2 with rfl | ⟨t, rfl⟩
    · exact Below.refl _ _
    · exact below_bytes w t
  | «syntax» =>
    obtain ⟨te, pe, hc⟩ := hge.1
    refine (Tryz.strconv_Atoi_syntax s (by omega) h _ w hc (.inr ⟨te, pe, rfl⟩)).mono ?_
    rintro e w' ⟨n, rfl, -, -, h1⟩
    exact ⟨⟨_, _, rfl, .inr ⟨fun v hv => (by cases hv), _, _, rfl⟩⟩, h1⟩
  | range =>
    obtain ⟨te, pe, hc⟩ := hge.2
    refine (Tryz.strconv_Atoi_range s (by omega) h _ w hc (.inr ⟨te, pe, rfl⟩)).mono ?_
    rintro e w' ⟨n, rfl, -, -, h1⟩
    exact ⟨⟨_, _, rfl, .inr ⟨fun v hv => (by cases hv), _, _, rfl⟩⟩, h1⟩
theorem eitoa_any (n : Nat) (h1 : (n : Int) ≤ 9223372036854775807) (w : World) (hg : Glob w) :
    Calls Tryz.prog 39 #[.int .i64 (n : Int)] w fun e w' => e = .returned (.string ⟨(dec n).toArray⟩) ∧ Below w.heap.size w w' := by
  have := Tryz.strconv_Itoa (n : Int) (by omega) h1 w hg
  rw [itoa_dec (n : Int) (by omega), Int.toNat_natCast] at this
  refine this.mono ?_
  rintro e w' ⟨h, k, os, rfl⟩
  exact ⟨h, below_gr w k os⟩
/-- What a length is told to be. -/
def LenQ (d : L) (n : Nat) (b : Bool) : Prop := (b = true ∧ d = dec n) ∨ (b = false ∧ n = 0 ∧ ∀ k : Nat, k ≤ 1000000 → d ≠ dec k)
set_option maxRecDepth 100000 in
set_option maxHeartbeats 8000000 in
theorem elength_any (d : ByteArray) (hd : d.size ≤ 100000) (w : World) (hg : Glob w) (hge : GlobE w) :
    Calls Tryz.prog 48 #[.string d] w fun e w' => (∃ (n : Nat) (b : Bool), e = .returned (.tuple #[.int .i64 (n : Int), .bool b]) ∧ (n : Int) ≤ 9223372036854775807 ∧ LenQ (bl d) n b) ∧ Below w.heap.size w w' := by
  have C1 := hide (eatoi_any d hd w hge)
  have HG := hide hg
  clear hg hge
  go_enter Tryz.func48, Tryz.ntmps48
  go_wp2_with fail
  refine C1.out.mono ?_
  rintro e w1 ⟨⟨n, ev, rfl, hor⟩, hb⟩
  have HB := hide hb
  have HG1 := hide (HG.out.below hb)
  clear hb C1
  rcases hor with ⟨hat, rfl⟩ | ⟨hat, T, N, rfl⟩
  · have hbn : -9223372036854775808 ≤ n ∧ n ≤ 9223372036854775807 := by
      have := numA_bounds (bl d)
      unfold numA at this
      rw [hat] at this
      exact this
    have HAT := hide hat
    clear hat
    by_cases hn : n < 0
    · have dn : decide (n < 0) = true := decide_eq_true hn
      have HQ : Hid (LenQ (bl d) 0 false) := hide (.inr ⟨rfl, rfl, fun k hk e => by
        have h1 := HAT.out
        rw [e, atoi_dec k hk] at h1
        injection h1 with h1
        omega⟩)
      go_wp2_with fail
      go_ret2
      exact ⟨⟨0, false, rfl, by omega, HQ.out⟩, HB.out⟩
    · obtain ⟨k, rfl⟩ : ∃ k : Nat, n = (k : Int) := ⟨n.toNat, by omega⟩
      have dn : decide ((k : Int) < 0) = false := decide_eq_false hn
      have C2 := hide (eitoa_any k hbn.2 w1 HG1.out)
      obtain ⟨D, hD⟩ : ∃ D : ByteArray, D = ⟨(dec k).toArray⟩ := ⟨_, rfl⟩
      have hDb : bl D = dec k := by rw [hD]
      rw [← hD] at C2
      clear hD
      have HK := hide hbn.2
      clear hn hbn
      by_cases he : bl D = bl d
      · have dq := beq_same he
        have HQ : Hid (LenQ (bl d) k true) := hide (.inl ⟨rfl, by rw [← he, hDb]⟩)
        clear he hDb
        go_wp2_with fail
        refine C2.out.mono ?_
        rintro e w2 ⟨rfl, hb2⟩
        have HB2 := hide (bel2 HB.out hb2)
        clear hb2 C2
        go_wp2_with fail
        go_ret2
        exact ⟨⟨k, true, rfl, HK.out, HQ.out⟩, HB2.out⟩
      · have dq := beq_ne he
        have HQ : Hid (LenQ (bl d) 0 false) := hide (.inr ⟨rfl, rfl, fun j hj e => by
          have h1 := HAT.out
          rw [e, atoi_dec j hj] at h1
          injection h1 with h1
          have : j = k := by omega
          subst this
          exact he (by rw [hDb, e])⟩)
        clear he hDb
        go_wp2_with fail
        refine C2.out.mono ?_
        rintro e w2 ⟨rfl, hb2⟩
        have HB2 := hide (bel2 HB.out hb2)
        clear hb2 C2
        go_wp2_with fail
        go_ret2
        exact ⟨⟨0, false, rfl, by omega, HQ.out⟩, HB2.out⟩
  · have HQ : Hid (LenQ (bl d) 0 false) := hide (.inr ⟨rfl, rfl, fun k hk e => by
      have h1 := hat (k : Int)
      rw [e] at h1
      exact h1 (atoi_dec k hk)⟩)
    clear hat
    go_wp2_with fail
    go_ret2
    exact ⟨⟨0, false, rfl, by omega, HQ.out⟩, HB.out⟩
end Go.Proofs.YtebcpmgooodmpabGreatDoor
