/-
  The program's length, cut, begins and fault, walked.
-/
import Derived.Test.YtmogplecohkjcaaGreatDoorR11
import Derived.Test.YtmogplecohkjcaaGreatDoorMZ
import Derived.Test.YtmogplecohkjcaaGreatDoorR10
import Derived.RegionTactic
namespace Go.Proofs.YtmogplecohkjcaaGreatDoor
open Go.RowKit
open Utf1
open Pol8 hiding text right Right
open Msg15

theorem atoi_dec (n : Nat) (h : n ≤ 1000000) : Lib.atoiAll (dec n) = .ok (n : Int) := by
  obtain ⟨h1, h2⟩ := dec_facts n
  have hp := parse_ok (dec n) 0 h1 (by omega)
  rw [h2] at hp
  have hne := Pol8.dec_ne n
  cases hl : dec n with
  | nil => exact absurd hl hne
  | cons c r =>
    rw [hl] at hp h1
    rw [List.all_cons, Bool.and_eq_true] at h1
    have hd := of_decide_eq_true h1.1
    unfold Lib.atoiAll Lib.parseMag
    simp only
    rw [if_neg (show ¬ (c.toNat = 43 ∨ c.toNat = 45) by omega), if_neg (by simp), hp]
    simp only
    rw [if_neg (by omega), if_neg (by omega), if_neg (by omega)]
/-- strconv.Atoi. -/
theorem eatoi_any (s : ByteArray) (hs : s.size ≤ 100000) (w : World) (hge : GlobE w) :
    Calls Tryz.prog 94 #[.string s] w fun e w' => (∃ (n : Int) (ev : Value), e = .returned (.tuple #[.int .i64 n, ev]) ∧ ((Lib.atoiAll (bl s) = .ok n ∧ ev = .nilIface) ∨ ((∀ v, Lib.atoiAll (bl s) ≠ .ok v) ∧ ∃ T N, ev = .iface T (.pointer (some ⟨N, 0, none⟩))))) ∧ Below w.heap.size w w' := by
  cases h : Lib.atoiAll s.data.toList with
  | ok v =>
    refine (Tryz.strconv_Atoi_ok s (by omega) v h w).mono ?_
    rintro e w' ⟨rfl, h2⟩
    refine ⟨⟨v, _, rfl, .inl ⟨rfl, rfl⟩⟩, ?_⟩
    rcases h2 with rfl | ⟨t, rfl⟩
    · exact Below.refl _ _
    · exact below_bytes w t
  | «syntax» =>
    obtain ⟨te, pe, hc⟩ := hge.1
    refine (Tryz.strconv_Atoi_syntax s (by omega) h _ w hc (.inr ⟨te, pe, rfl⟩)).mono ?_
    rintro e w' ⟨n, rfl, -, -, h1⟩
    exact ⟨⟨_, _, rfl, .inr ⟨fun v hv => (by cases hv), _, _, rfl⟩⟩, h1⟩
  | range =>
    obtain ⟨te, pe, hc⟩ := hge.2
    refine (Tryz.strconv_Atoi_range s (by omega) h _ w hc (.inr ⟨te, pe, rfl⟩)).mono ?_
    rintro e w' ⟨n, rfl, -, -, h1⟩
    exact ⟨⟨_, _, rfl, .inr ⟨fun v hv => (by cases hv), _, _, rfl⟩⟩, h1⟩
theorem eitoa_any (n : Nat) (h1 : (n : Int) ≤ 9223372036854775807) (w : World) (hg : Glob w) :
    Calls Tryz.prog 88 #[.int .i64 (n : Int)] w fun e w' => e = .returned (.string ⟨(dec n).toArray⟩) ∧ Below w.heap.size w w' := by
  have := Tryz.strconv_Itoa (n : Int) (by omega) h1 w hg
  rw [itoa_dec (n : Int) (by omega), Int.toNat_natCast] at this
  refine this.mono ?_
  rintro e w' ⟨h, k, os, rfl⟩
  exact ⟨h, below_gr w k os⟩
/-- What a length is told to be. -/
def LenQ (d : L) (n : Nat) (b : Bool) : Prop := (b = true ∧ d = dec n) ∨ (b = false ∧ n = 0 ∧ ∀ k : Nat, k ≤ 1000000 → d ≠ dec k)
set_option maxRecDepth 100000 in
set_option maxHeartbeats 8000000 in
theorem elength_any (d : ByteArray) (hd : d.size ≤ 100000) (w : World) (hg : Glob w) (hge : GlobE w) :
    Calls Tryz.prog 97 #[.string d] w fun e w' => (∃ (n : Nat) (b : Bool), e = .returned (.tuple #[.int .i64 (n : Int), .bool b]) ∧ (n : Int) ≤ 9223372036854775807 ∧ LenQ (bl d) n b) ∧ Below w.heap.size w w' := by
  have C1 := hide (eatoi_any d hd w hge)
  have HG := hide hg
  clear hg hge
  go_enter Tryz.func97, Tryz.ntmps97
  go_wp2_with fail
  refine C1.out.mono ?_
  rintro e w1 ⟨⟨n, ev, rfl, hor⟩, hb⟩
  have HB := hide hb
  have HG1 := hide (HG.out.below hb)
  clear hb C1
  rcases hor with ⟨hat, rfl⟩ | ⟨hat, T, N, rfl⟩
  · have hbn : -9223372036854775808 ≤ n ∧ n ≤ 9223372036854775807 := by
      have := numA_bounds (bl d)
      unfold numA at this
      rw [hat] at this
      exact this
    have HAT := hide hat
    clear hat
    by_cases hn : n < 0
    · have dn : decide (n < 0) = true := decide_eq_true hn
      have HQ : Hid (LenQ (bl d) 0 false) := hide (.inr ⟨rfl, rfl, fun k hk e => by
        have h1 := HAT.out
        rw [e, atoi_dec k hk] at h1
        injection h1 with h1
        omega⟩)
      go_wp2_with fail
      go_ret2
      exact ⟨⟨0, false, rfl, by omega, HQ.out⟩, HB.out⟩
    · obtain ⟨k, rfl⟩ : ∃ k : Nat, n = (k : Int) := ⟨n.toNat, by omega⟩
      have dn : decide ((k : Int) < 0) = false := decide_eq_false hn
      have C2 := hide (eitoa_any k hbn.2 w1 HG1.out)
      obtain ⟨D, hD⟩ : ∃ D : ByteArray, D = ⟨(dec k).toArray⟩ := ⟨_, rfl⟩
      have hDb : bl D = dec k := by rw [hD]
      rw [← hD] at C2
      clear hD
      have HK := hide hbn.2
      clear hn hbn
      by_cases he : bl D = bl d
      · have dq := beq_same he
        have HQ : Hid (LenQ (bl d) k true) := hide (.inl ⟨rfl, by rw [← he, hDb]⟩)
        clear he hDb
        go_wp2_with fail
        refine C2.out.mono ?_
        rintro e w2 ⟨rfl, hb2⟩
        have HB2 := hide (bel2 HB.out hb2)
        clear hb2 C2
        go_wp2_with fail
        go_ret2
        exact ⟨⟨k, true, rfl, HK.out, HQ.out⟩, HB2.out⟩
      · have dq := beq_ne he
        have HQ : Hid (LenQ (bl d) 0 false) := hide (.inr ⟨rfl, rfl, fun j hj e => by
          have h1 := HAT.out
          rw [e, atoi_dec j hj] at h1
          injection h1 with h1
          have : j = k := by omega
          subst this
          exact he (by rw [hDb, e])⟩)
        clear he hDb
        go_wp2_with fail
        refine C2.out.mono ?_
        rintro e w2 ⟨rfl, hb2⟩
        have HB2 := hide (bel2 HB.out hb2)
        clear hb2 C2
        go_wp2_with fail
        go_ret2
        exact ⟨⟨0, false, rfl, by omega, HQ.out⟩, HB2.out⟩
  · have HQ : Hid (LenQ (bl d) 0 false) := hide (.inr ⟨rfl, rfl, fun k hk e => by
      have h1 := hat (k : Int)
      rw [e] at h1
      exact h1 (atoi_dec k hk)⟩)
    clear hat
    go_wp2_with fail
    go_ret2
    exact ⟨⟨0, false, rfl, by omega, HQ.out⟩, HB.out⟩
end Go.Proofs.YtmogplecohkjcaaGreatDoor

namespace Go.Proofs.YtmogplecohkjcaaGreatDoor
open Go.RowKit
open Utf1
open Pol8 hiding text right Right
open Msg15

/-- A text, parted at the first colon. -/
def Parts58 (s d m : L) : Prop := (s = d ++ 58 :: m ∧ (58 : UInt8) ∉ d) ∨ (s = d ∧ m = [] ∧ (58 : UInt8) ∉ d)
theorem ecolon_any (s : ByteArray) (hs : s.size ≤ 100000) (w : World) :
    Calls Tryz.prog 49 #[.string s, .string ⟨#[58]⟩] w fun e w' => (∃ (D M : ByteArray) (b : Bool), e = .returned (.tuple #[.string D, .string M, .bool b]) ∧ Parts58 (bl s) (bl D) (bl M) ∧ D.size ≤ 100000 ∧ M.size ≤ 100000) ∧ Below w.heap.size w w' := by
  refine (pcut_any 58 s hs w).mono ?_
  rintro e w' ⟨rfl, hb⟩
  have hl := fst_len 58 (bl s)
  rw [bl_len] at hl
  refine ⟨⟨_, _, _, rfl, ?_, ?_, ?_⟩, hb⟩
  · show Parts58 (bl s) (fst' 58 (bl s)) (snd' 58 (bl s))
    by_cases h : (58 : UInt8) ∈ bl s
    · obtain ⟨d, m, e, hd⟩ := colon_at h
      rw [e, (fst_some 58 d m hd).1, (fst_some 58 d m hd).2]
      exact .inl ⟨rfl, hd⟩
    · rw [(fst_none 58 _ h).1, (fst_none 58 _ h).2]
      exact .inr ⟨rfl, rfl, h⟩
  · rw [← bl_len]
    exact Nat.le_trans hl.1 hs
  · rw [← bl_len]
    exact Nat.le_trans hl.2 hs
/-- What cut tells. -/
def CutQ (s : L) (t r : ByteArray) (b : Bool) : Prop := (b = true ∧ s = fld (bl t) ++ bl r) ∨ (b = false ∧ t = ⟨#[]⟩ ∧ r = ⟨#[]⟩ ∧ ∀ x y, s ≠ fld x ++ y)
theorem cutQ_not {s d m : L} {n : Nat} {b : Bool} (hp : Parts58 s d m) (hn : LenQ d n b) (hl : d.length ≤ 100000) (h : b = true → n < m.length → m[n]? ≠ some 44) (hm : m.length ≤ 100000) : ∀ x y, s ≠ fld x ++ y := by
  rcases hp with ⟨rfl, hd⟩ | ⟨rfl, _, hd⟩
  · refine fld_not hd (fun k hk hkl => ?_)
    rcases hn with ⟨hb, hn⟩ | ⟨_, _, hn⟩
    · have : k = n := dec_inj (by rw [← hk, hn])
      subst this
      exact h hb hkl
    · exact absurd hk (hn k (by omega))
  · exact fun x y => fld_none hd x y

set_option maxRecDepth 100000 in
set_option maxHeartbeats 8000000 in
theorem ecut_any (s : ByteArray) (hs : s.size ≤ 100000) (w : World) (hg : Glob w) (hge : GlobE w) :
    Calls Tryz.prog 82 #[.string s] w fun e w' => (∃ (t r : ByteArray) (b : Bool), e = .returned (.tuple #[.string t, .string r, .bool b]) ∧ CutQ (bl s) t r b) ∧ Below w.heap.size w w' := by
  have C1 := hide (ecolon_any s hs w)
  have HG := hide hg
  have HGE := hide hge
  clear hg hge
  go_enter Tryz.func82, Tryz.ntmps82
  go_wp2_with fail
  refine C1.out.mono ?_
  rintro e w1 ⟨⟨D, M, b0, rfl, hp, hD, hM⟩, hb1⟩
  have HP := hide hp
  have HB1 := hide hb1
  have C2 := hide (elength_any D hD w1 (HG.out.below hb1) (HGE.out.below hb1))
  clear hp hb1 C1 HG HGE
  go_wp2_with fail
  refine C2.out.mono ?_
  rintro e w2 ⟨⟨n, b, rfl, hn, hq⟩, hb2⟩
  have HB2 := hide (bel2 HB1.out hb2)
  have HN := hide hn
  have HQ := hide hq
  have HNOT : Hid ((b = true → n < M.size → (bl M)[n]? ≠ some 44) → ∀ x y, bl s ≠ fld x ++ y) := hide (fun h => cutQ_not HP.out hq (by rw [bl_len]; exact hD) (fun h1 h2 => h h1 (by rw [← bl_len]; exact h2)) (by rw [bl_len]; exact hM))
  clear hn hq hb2 HB1 C2
  cases hbb : b with
  | false =>
    have HF := hide (HNOT.out (fun h => by rw [hbb] at h; cases h))
    subst hbb
    clear HNOT
    go_wp2_with fail
    go_ret3
    exact ⟨⟨_, _, _, rfl, .inr ⟨rfl, rfl, rfl, HF.out⟩⟩, HB2.out⟩
  | true =>
    have HDN : Hid (bl D = dec n) := hide (by
      rcases HQ.out with ⟨_, h⟩ | ⟨h, _⟩
      · exact h
      · rw [hbb] at h; cases h)
    have HNT := hide (HNOT.out)
    by_cases hlt : M.size ≤ n
    · have HF := hide (HNOT.out (fun _ h => by omega))
      have dl2 : decide (M.size ≤ n) = true := decide_eq_true hlt
      have dl : decide ((M.size : Int) ≤ (n : Int)) = true := decide_eq_true (by omega)
      subst hbb
      clear HNOT HNT hlt
      go_wp2_with fail
      go_ret3
      exact ⟨⟨_, _, _, rfl, .inr ⟨rfl, rfl, rfl, HF.out⟩⟩, HB2.out⟩
    · have dl2 : decide (M.size ≤ n) = false := decide_eq_false hlt
      have dl : decide ((M.size : Int) ≤ (n : Int)) = false := decide_eq_false (by omega)
      obtain ⟨c, hc⟩ := getK M n (by omega)
      have ip := fun w => idxK hc w
      have hnM : n < M.size := by omega
      have hn5 : n ≤ 100000 := by omega
      by_cases h44 : c = 44
      · have e44 : ((c.toNat : Int) != 44) = false := by rw [h44]; rfl
        subst hbb
        have HT : Hid (CutQ (bl s) (M.extract 0 n) (M.extract (n + 1) M.size) true) := hide (.inl ⟨rfl, by
          have h1 : bl (M.extract 0 n) = (bl M).take n := by rw [extract_bl]; simp
          have h2 : bl (M.extract (n + 1) M.size) = (bl M).drop (n + 1) := by
            rw [extract_bl, List.take_of_length_le (by rw [List.length_drop, bl_len]; omega)]
          rw [h1, h2]
          rcases HP.out with ⟨e, _⟩ | ⟨_, e, _⟩
          · rw [e]
            exact fld_make HDN.out (by rw [hc, h44])
          · exfalso
            have h0 : (bl M).length = 0 := by rw [e]; rfl
            rw [bl_len] at h0
            omega⟩)
        clear HNOT HNT hlt hc h44
        go_wp2_with fail
        go_region
        all_goals (go_wp2_with fail; go_ret3; exact ⟨⟨_, _, _, rfl, HT.out⟩, HB2.out.drew⟩)
      · have e44 : ((c.toNat : Int) != 44) = true := by
          have h5 : ¬ c.toNat = 44 := fun h => h44 ((u8_eq (c := c) (n := 44) (by decide)).2 h)
          simp
          omega
        have HF := hide (HNOT.out (fun _ _ h => by
          rw [hc] at h
          exact h44 (Option.some.inj h)))
        subst hbb
        clear HNOT HNT hlt hc h44
        go_wp2_with fail
        go_ret3
        exact ⟨⟨_, _, _, rfl, .inr ⟨rfl, rfl, rfl, HF.out⟩⟩, HB2.out⟩

set_option maxRecDepth 100000 in
set_option maxHeartbeats 8000000 in
theorem ebegins_any (s : ByteArray) (hs : s.size ≤ 100000) (w : World) (hg : Glob w) (hge : GlobE w) :
    Calls Tryz.prog 83 #[.string s] w fun e w' => e = .returned (.bool (begB (bl s))) ∧ Below w.heap.size w w' := by
  have C1 := hide (ecolon_any s hs w)
  have HG := hide hg
  have HGE := hide hge
  clear hg hge
  obtain ⟨R, hR⟩ : ∃ R, R = begB (bl s) := ⟨_, rfl⟩
  rw [← hR]
  have HRR := hide hR
  clear hR
  go_enter Tryz.func83, Tryz.ntmps83
  go_wp2_with fail
  refine C1.out.mono ?_
  rintro e w1 ⟨⟨D, M, b0, rfl, hp, hD, hM⟩, hb1⟩
  have HP : Hid ((R = true) ↔ begP (bl D) (bl M)) := hide (by
    rw [HRR.out]
    rcases hp with ⟨e, hd⟩ | ⟨e, hm, hd⟩
    · rw [e]
      exact ⟨begB_to hd (.inr rfl), begB_of (.inr rfl)⟩
    · have e2 : bl s = bl D ++ [] := by rw [e, List.append_nil]
      rw [e2]
      exact ⟨begB_to hd (.inl ⟨rfl, hm⟩), begB_of (.inl ⟨rfl, hm⟩)⟩)
  have HB1 := hide hb1
  have C2 := hide (elength_any D hD w1 (HG.out.below hb1) (HGE.out.below hb1))
  clear hp hb1 C1 HG HGE HRR
  go_wp2_with fail
  refine C2.out.mono ?_
  rintro e w2 ⟨⟨n, b, rfl, hn, hq⟩, hb2⟩
  have HB2 := hide (bel2 HB1.out hb2)
  have HN := hide hn
  have HQ : Hid (R = true ↔ (b = true ∧ D.size ≤ 6 ∧ M.size ≤ n)) := hide (by
    rw [HP.out]
    unfold begP
    rw [bl_len, bl_len]
    constructor
    · rintro ⟨k, hk, h6, hm⟩
      rcases hq with ⟨hb, hn'⟩ | ⟨_, _, hn'⟩
      · have : k = n := dec_inj (by rw [← hk, hn'])
        subst this
        exact ⟨hb, h6, hm⟩
      · have hk6 : k ≤ 999999 := by
          have h7 := num_lt6 (dec k) (fun c hc => List.all_eq_true.1 (dec_facts k).1 c hc) (by rw [← hk, bl_len]; exact h6)
          rw [(dec_facts k).2] at h7
          exact h7
        exact absurd hk (hn' k (by omega))
    · rintro ⟨hb, h6, hm⟩
      rcases hq with ⟨_, hn'⟩ | ⟨h, _⟩
      · exact ⟨n, hn', h6, hm⟩
      · rw [h] at hb; cases hb)
  clear hn hq hb2 HB1 C2 HP
  cases hbb : b with
  | false =>
    have HF : Hid (R = false) := hide (by cases hr : R with | false => rfl | true => have := (HQ.out.1 hr).1; rw [hbb] at this; cases this)
    subst hbb
    go_wp2_with fail
    go_ret
    rw [HF.out]
    exact ⟨rfl, HB2.out⟩
  | true =>
    have HB := hide hbb
    by_cases h6 : D.size ≤ 6
    · have d6 : decide ((D.size : Int) ≤ 6) = true := decide_eq_true (by omega)
      by_cases hm : M.size ≤ n
      · have dm : decide ((M.size : Int) ≤ (n : Int)) = true := decide_eq_true (by omega)
        have dm2 : decide (M.size ≤ n) = true := decide_eq_true hm
        have HF : Hid (R = true) := hide (HQ.out.2 ⟨hbb, h6, hm⟩)
        subst hbb
        clear h6 hm
        go_wp2_with fail
        go_ret
        rw [HF.out]
        exact ⟨rfl, HB2.out⟩
      · have dm : decide ((M.size : Int) ≤ (n : Int)) = false := decide_eq_false (by omega)
        have dm2 : decide (M.size ≤ n) = false := decide_eq_false hm
        have HF : Hid (R = false) := hide (by cases hr : R with | false => rfl | true => exact absurd (HQ.out.1 hr).2.2 hm)
        subst hbb
        clear h6 hm
        go_wp2_with fail
        go_ret
        rw [HF.out]
        exact ⟨rfl, HB2.out⟩
    · have d6 : decide ((D.size : Int) ≤ 6) = false := decide_eq_false (by omega)
      have HF : Hid (R = false) := hide (by cases hr : R with | false => rfl | true => exact absurd (HQ.out.1 hr).2.1 h6)
      subst hbb
      clear h6
      go_wp2_with fail
      go_ret
      rw [HF.out]
      exact ⟨rfl, HB2.out⟩

theorem cutQ_sizes {s : ByteArray} {t r : ByteArray} {b : Bool} (h : CutQ (bl s) t r b) : t.size ≤ s.size ∧ r.size ≤ s.size ∧ (b = true → r.size + 3 ≤ s.size) := by
  rcases h with ⟨hb, h⟩ | ⟨hb, rfl, rfl, _⟩
  · have h1 := congrArg List.length h
    have h2 := fld_len (bl t)
    rw [List.length_append, bl_len, bl_len] at h1
    rw [bl_len] at h2
    omega
  · exact ⟨Nat.zero_le _, Nat.zero_le _, fun h => by rw [hb] at h; cases h⟩
theorem flds_snoc (l : List L) (t : L) : flds (l ++ [t]) = flds l ++ fld t := by
  rw [flds_app]
  show flds l ++ (fld t ++ []) = _
  rw [List.append_nil]

set_option maxRecDepth 100000 in
set_option maxHeartbeats 8000000 in
theorem efault_any (s : ByteArray) (hs : s.size ≤ 100000) (w : World) (hg : Glob w) (hge : GlobE w) :
    Calls Tryz.prog 63 #[.string s] w fun e w' => (∃ (l : List L) (left : L) (z : Int), e = .returned (.int .i64 z) ∧ Fl (bl s) l left ∧ z = if begB left = true then 3 else 2) ∧ Below w.heap.size w w' := by
  have C1 := hide (ecut_any s hs w hg hge)
  have HG := hide hg
  have HGE := hide hge
  clear hg hge
  go_enter Tryz.func63, Tryz.ntmps63
  go_wp2_with fail
  refine C1.out.mono ?_
  rintro e w1 ⟨⟨t1, r1, b1, rfl, hq1⟩, hb1⟩
  have HQ1 := hide hq1
  have HB1 := hide hb1
  clear hq1 hb1 C1
  go_wp2_with fail
  go_loopg [0, 4, 5] (s.size + 1) (fun g v0 v4 v5 wr => ∃ (cur r : ByteArray) (b : Bool), cur.size + 1 ≤ g ∧ cur.size ≤ s.size ∧ v0 = .string cur ∧ v4 = .string r ∧ v5 = .bool b ∧ Hid ((∃ l, bl s = flds l ++ bl cur) ∧ (∃ t, CutQ (bl cur) t r b) ∧ Below w.heap.size w wr))
  case atStart => exact ⟨s, r1, b1, Nat.le_refl _, Nat.le_refl _, rfl, rfl, rfl, hide ⟨⟨[], rfl⟩, ⟨t1, HQ1.out⟩, HB1.out⟩⟩
  case round =>
    obtain ⟨cur, r, b, hcg, hcs, rfl, rfl, rfl, HI⟩ := hrel
    cases hbb : b with
    | true =>
      have HRS : Hid (r.size + 3 ≤ cur.size) := hide (by
        obtain ⟨t, h⟩ := HI.out.2.1
        exact (cutQ_sizes h).2.2 hbb)
      have HN : Hid (∃ l, bl s = flds l ++ bl r) := hide (by
        obtain ⟨⟨l, h1⟩, ⟨t, h2⟩, _⟩ := HI.out
        rcases h2 with ⟨_, h2⟩ | ⟨h2, _⟩
        · exact ⟨l ++ [bl t], by rw [h1, h2, flds_snoc, List.append_assoc]⟩
        · rw [hbb] at h2; cases h2)
      have HB := hide HI.out.2.2
      have C2 := hide (ecut_any r (by have := HRS.out; omega) wr (HG.out.below HB.out) (HGE.out.below HB.out))
      subst hbb
      clear HI
      go_wp2_with fail
      refine C2.out.mono ?_
      rintro e w2 ⟨⟨t2, r2, b2, rfl, hq2⟩, hb2⟩
      have HQ2 := hide hq2
      have HB2 := hide (bel2 HB.out hb2)
      clear hq2 hb2 C2
      go_wp2_with fail
      go_roundg (r.size + 1)
      case measure => have := HRS.out; omega
      case rel => exact ⟨r, r2, b2, Nat.le_refl _, by have := HRS.out; omega, rfl, rfl, rfl, hide ⟨HN.out, ⟨t2, HQ2.out⟩, HB2.out⟩⟩
    | false =>
      have HN : Hid (∃ l, Fl (bl s) l (bl cur)) := hide (by
        obtain ⟨⟨l, h1⟩, ⟨t, h2⟩, _⟩ := HI.out
        rcases h2 with ⟨h2, _⟩ | ⟨_, _, _, h2⟩
        · rw [hbb] at h2; cases h2
        · exact ⟨l, fl_make h1 (by rw [bl_len]; omega) h2⟩)
      have HB := hide HI.out.2.2
      have C2 := hide (ebegins_any cur (by omega) wr (HG.out.below HB.out) (HGE.out.below HB.out))
      obtain ⟨R, hR⟩ : ∃ R, R = begB (bl cur) := ⟨_, rfl⟩
      rw [← hR] at C2
      have HR := hide hR
      subst hbb
      clear HI hR hcg
      go_wp2_with fail
      refine C2.out.mono ?_
      rintro e w2 ⟨rfl, hb2⟩
      have HB2 := hide (bel2 HB.out hb2)
      clear hb2 C2
      cases hr : R with
      | true =>
        have HE : Hid ((3 : Int) = if begB (bl cur) = true then 3 else 2) := hide (by rw [← HR.out, hr]; rfl)
        subst hr
        go_wp2_with fail
        go_ret
        obtain ⟨l, hl⟩ := HN.out
        exact ⟨⟨l, _, _, rfl, hl, HE.out⟩, HB2.out⟩
      | false =>
        have HE : Hid ((2 : Int) = if begB (bl cur) = true then 3 else 2) := hide (by rw [← HR.out, hr]; rfl)
        subst hr
        go_wp2_with fail
        go_ret
        obtain ⟨l, hl⟩ := HN.out
        exact ⟨⟨l, _, _, rfl, hl, HE.out⟩, HB2.out⟩
end Go.Proofs.YtmogplecohkjcaaGreatDoor
