/-
  Names that may be, as the document tells them: versoref05.name, Element, Attribute, attrs.
-/
import Derived.Test.YtbcadeikdmlpoaaGreatDoorN7
import Derived.Deep.CutRange
namespace Utf1
/-- A byte at a place of a name. -/
def rnB (others : List UInt8) (i : Nat) (c : UInt8) : Bool := isSm c || (decide (0 < i) && (decide (48 ≤ c.toNat ∧ c.toNat ≤ 57) || decide (c ∈ others)))
theorem isNmL_ok {others l : List UInt8} (hl : l ≠ []) (h : ∀ i c, l[i]? = some c → rnB others i c = true) : isNmL others l = true := by
  cases l with
  | nil => exact absurd rfl hl
  | cons c t =>
    have h0 := h 0 c rfl
    have h1 : isSm c = true := by simpa [rnB] using h0
    rw [isNmL, h1, Bool.true_and, List.all_eq_true]
    intro x hx
    obtain ⟨i, hi⟩ := List.getElem?_of_mem hx
    have := h i x hi
    unfold rnB at this
    unfold nmB
    rw [Bool.or_eq_true, Bool.and_eq_true, Bool.or_eq_true] at this
    rw [Bool.or_eq_true, Bool.or_eq_true]
    rcases this with h | ⟨_, h | h⟩
    · exact .inl (.inl h)
    · exact .inl (.inr h)
    · exact .inr h
theorem isNmL_no {others l : List UInt8} {i : Nat} {c : UInt8} (hi : l[i]? = some c) (h : rnB others i c = false) : isNmL others l = false := by
  cases l with
  | nil => simp at hi
  | cons c0 t =>
    rw [isNmL]
    unfold rnB at h
    rw [Bool.or_eq_false_iff, Bool.and_eq_false_iff] at h
    obtain ⟨h1, h2⟩ := h
    cases i with
    | zero =>
      have : c0 = c := by simpa using hi
      rw [this, h1, Bool.false_and]
    | succ i =>
      have h3 : (decide (48 ≤ c.toNat ∧ c.toNat ≤ 57) || decide (c ∈ others)) = false := by
        rcases h2 with h2 | h2
        · simp at h2
        · exact h2
      rw [Bool.or_eq_false_iff] at h3
      have : (c0 :: t).all (nmB others) = false := by
        rw [List.all_eq_false]
        refine ⟨c, List.mem_of_getElem? hi, ?_⟩
        unfold nmB
        rw [h1, h3.1, h3.2]
        decide
      rw [this, Bool.and_false]
end Utf1
namespace Go.Proofs.YtbcadeikdmlpoaaGreatDoor.Dm
open Go.RowKit
open Utf1

theorem at_some (s : ByteArray) (j : Nat) (h : j < s.size) : (bl s)[j]? = some (s[j]'h) := by
  rw [List.getElem?_eq_getElem (by rw [bl_len]; exact h)]
  rfl

set_option maxRecDepth 100000 in
set_option maxHeartbeats 16000000 in
theorem rname_any (s others : ByteArray) (w : World) (hs : s.size ≤ 9223372036854775807) (ho : others.size ≤ 1000) : Calls Tryz.prog 85 #[.string s, .string others] w fun e w' => e = .returned (.bool (isNmL (bl others) (bl s))) ∧ w' = w := by
  obtain ⟨R, hR⟩ : ∃ R, R = isNmL (bl others) (bl s) := ⟨_, rfl⟩
  rw [← hR]
  have HR := hide hR
  clear hR
  go_enter Tryz.func85, Tryz.ntmps85
  go_wp2_with fail
  go_loopg [5] s.size (fun k v5 wr => ∃ j : Nat, j + k = s.size ∧ v5 = .int .i64 (j : Int) ∧ wr = w ∧ Hid (∀ i c, i < j → (bl s)[i]? = some c → rnB (bl others) i c = true))
  case atStart => exact ⟨0, by omega, rfl, rfl, hide (fun i c h => by omega)⟩
  case round =>
    obtain ⟨j, hjk, rfl, rfl, HA⟩ := hrel
    by_cases hjl : j < s.size
    case neg =>
      have e : j = s.size := by omega
      have hRR : R = decide (0 < s.size) := by
        rw [HR.out]
        by_cases h : bl s = []
        · have : s.size = 0 := by rw [← bl_len, h]; rfl
          rw [h, this]
          rfl
        · have : 0 < s.size := by
            rw [← bl_len]
            cases hh : bl s with
            | nil => exact absurd hh h
            | cons => simp
          rw [decide_eq_true this]
          refine isNmL_ok h (fun i c hi => HA.out i c ?_ hi)
          have := (List.getElem?_eq_some_iff.1 hi).1
          rw [bl_len] at this
          omega
      have HRR := hide hRR
      clear hRR HA
      go_wp2_with fail
      go_ret
      refine ⟨ret_bool ?_, rfl⟩
      rw [HRR.out]
      try simp
    case pos =>
    have hgc := at_some s j hjl
    have hcb : (s[j]'hjl).toNat < 256 := (s[j]'hjl).toNat_lt
    obtain ⟨is0, his⟩ : ∃ x, x = (isSm (s[j]'hjl) || (decide (0 < j) && decide (48 ≤ (s[j]'hjl).toNat ∧ (s[j]'hjl).toNat ≤ 57))) := ⟨_, rfl⟩
    have HIS := hide his
    have hrn : rnB (bl others) j (s[j]'hjl) = (is0 || (decide (0 < j) && decide ((s[j]'hjl) ∈ bl others))) := by
      rw [his]
      unfold rnB
      cases decide (0 < j) <;> simp [Bool.or_assoc]
    have HRN := hide hrn
    have HGC := hide hgc
    clear his hrn hgc
    go_upto_region 5 with fail
    go_cut [7] from 9 to 55 (fun v7 wc => v7 = .bool is0 ∧ wc = wr)
    case first =>
      have HIS2 : Hid (∀ b : Bool, b = (decide (97 ≤ (s[j]'hjl).toNat ∧ (s[j]'hjl).toNat ≤ 122) || (decide (0 < j) && decide (48 ≤ (s[j]'hjl).toNat ∧ (s[j]'hjl).toNat ≤ 57))) → b = is0) := hide (fun b h => by rw [h, HIS.out]; rfl)
      clear HIS HRN HGC HA
      by_cases h1 : 97 ≤ (s[j]'hjl).toNat
      · by_cases h2 : (s[j]'hjl).toNat ≤ 122
        · go_wp2_with fail
          go_meet
          refine ⟨?_, rfl⟩
          rw [← HIS2.out true (by rw [decide_eq_true (And.intro h1 h2)]; rfl)]
          all_goals first | rfl | (congr 1; simp; omega)
        · by_cases h3 : 0 < j
          · go_wp2_with fail
            go_meet
            refine ⟨?_, rfl⟩
            rw [← HIS2.out false (by rw [decide_eq_false (fun h => h2 h.2), decide_eq_false (fun h => by omega : ¬ (48 ≤ (s[j]'hjl).toNat ∧ (s[j]'hjl).toNat ≤ 57)), Bool.and_false]; rfl)]
            all_goals first | rfl | (congr 1; simp; omega)
          · go_wp2_with fail
            go_meet
            refine ⟨?_, rfl⟩
            rw [← HIS2.out false (by rw [decide_eq_false (fun h => h2 h.2), decide_eq_false h3]; rfl)]
            all_goals first | rfl | (congr 1; simp; omega)
      · by_cases h3 : 0 < j
        · by_cases h4 : 48 ≤ (s[j]'hjl).toNat
          · by_cases h5 : (s[j]'hjl).toNat ≤ 57
            · go_wp2_with fail
              go_meet
              refine ⟨?_, rfl⟩
              rw [← HIS2.out true (by rw [decide_eq_true h3, decide_eq_true (And.intro h4 h5)]; simp)]
              all_goals first | rfl | (congr 1; simp; omega)
            · go_wp2_with fail
              go_meet
              refine ⟨?_, rfl⟩
              rw [← HIS2.out false (by rw [decide_eq_false (fun h => h1 h.1), decide_eq_false (fun h => h5 h.2 : ¬ (48 ≤ (s[j]'hjl).toNat ∧ (s[j]'hjl).toNat ≤ 57)), Bool.and_false]; rfl)]
              all_goals first | rfl | (congr 1; simp; omega)
          · go_wp2_with fail
            go_meet
            refine ⟨?_, rfl⟩
            rw [← HIS2.out false (by rw [decide_eq_false (fun h => h1 h.1), decide_eq_false (fun h => h4 h.1 : ¬ (48 ≤ (s[j]'hjl).toNat ∧ (s[j]'hjl).toNat ≤ 57)), Bool.and_false]; rfl)]
            all_goals first | rfl | (congr 1; simp; omega)
        · go_wp2_with fail
          go_meet
          refine ⟨?_, rfl⟩
          rw [← HIS2.out false (by rw [decide_eq_false (fun h => h1 h.1), decide_eq_false h3]; rfl)]
          all_goals first | rfl | (congr 1; simp; omega)
    case rest =>
      obtain ⟨rfl, rfl⟩ := hcut
      have HNO : Hid (rnB (bl others) j (s[j]'hjl) = false → R = false) := hide (fun h => by rw [HR.out]; exact isNmL_no HGC.out h)
      have HYES : Hid (rnB (bl others) j (s[j]'hjl) = true → ∀ i c, i < j + 1 → (bl s)[i]? = some c → rnB (bl others) i c = true) := hide (by
        intro h i c hi hc
        by_cases hij : i = j
        · subst hij
          rw [HGC.out] at hc
          injection hc with hc
          rw [← hc]
          exact h
        · exact HA.out i c (by omega) hc)
      clear HIS HA HGC
      obtain ⟨kk, hkk⟩ : ∃ kk, kk = gk := ⟨_, rfl⟩
      go_wp2_with fail
      go_loopg [7, 8] others.size (fun k2 v7 v8 wq => ∃ (q : Nat) (b : Bool), q + k2 = others.size ∧ v7 = .bool b ∧ v8 = .int .i64 (q : Int) ∧ wq = wc ∧ Hid (b = (is0 || (decide (0 < j) && decide ((s[j]'hjl) ∈ (bl others).take q)))))
      case atStart => exact ⟨0, is0, by omega, rfl, rfl, rfl, hide (by simp)⟩
      case round =>
        obtain ⟨q, b, hqk, rfl, rfl, rfl, HBB⟩ := hrel
        by_cases hj0 : 0 < j
        case neg =>
          have hbr : rnB (bl others) j (s[j]'hjl) = b := by rw [HRN.out, HBB.out, decide_eq_false hj0, Bool.false_and, Bool.false_and]
          have hd1 : decide ((0 : Int) < (j : Int)) = false := decide_eq_false (by omega)
          by_cases hql : q < others.size
          · cases b with
            | true =>
              have HY := hide (HYES.out hbr)
              clear HYES HNO hbr HBB HRN
              go_wp2_with fail
              go_roundg (kk - 1)
              case measure => omega
              case rel => exact ⟨j + 1, by omega, by first | rfl | simp, rfl, HY⟩
            | false =>
              have HY := hide (HNO.out hbr)
              clear HYES HNO hbr HBB HRN
              go_wp2_with fail
              try rw [Exit.noGoto_ret]
              go_ret
              exact ⟨ret_bool HY.out.symm, rfl⟩
          · cases b with
            | true =>
              have HY := hide (HYES.out hbr)
              clear HYES HNO hbr HBB HRN
              go_wp2_with fail
              go_roundg (kk - 1)
              case measure => omega
              case rel => exact ⟨j + 1, by omega, by first | rfl | simp, rfl, HY⟩
            | false =>
              have HY := hide (HNO.out hbr)
              clear HYES HNO hbr HBB HRN
              go_wp2_with fail
              try rw [Exit.noGoto_ret]
              go_ret
              exact ⟨ret_bool HY.out.symm, rfl⟩
        case pos =>
        by_cases hql : q < others.size
        case pos =>
          have hoc := at_some others q hql
          have htk : (bl others).take (q + 1) = (bl others).take q ++ [others[q]'hql] := by rw [List.take_add_one, hoc]; rfl
          have hob : (others[q]'hql).toNat < 256 := (others[q]'hql).toNat_lt
          have HB2 : Hid ((b || decide ((s[j]'hjl).toNat = (others[q]'hql).toNat)) = (is0 || (decide (0 < j) && decide ((s[j]'hjl) ∈ (bl others).take (q + 1))))) := hide (by
            rw [HBB.out, htk, decide_eq_true hj0, Bool.true_and, Bool.true_and, Bool.or_assoc]
            congr 1
            by_cases hm : s[j]'hjl ∈ (bl others).take q
            · rw [decide_eq_true hm, decide_eq_true (List.mem_append.2 (.inl hm))]
              rfl
            · rw [decide_eq_false hm, Bool.false_or]
              by_cases he : (s[j]'hjl).toNat = (others[q]'hql).toNat
              · have he2 : s[j]'hjl = others[q]'hql := UInt8.toNat.inj he
                rw [decide_eq_true he, decide_eq_true (List.mem_append.2 (.inr (by rw [he2]; simp)))]
              · rw [decide_eq_false he, decide_eq_false]
                intro h
                rcases List.mem_append.1 h with h | h
                · exact hm h
                · apply he
                  have : s[j]'hjl = others[q]'hql := by simpa using h
                  rw [this])
          clear hoc htk HBB HYES HNO HRN
          cases b with
          | true =>
            go_wp2_with fail
            go_roundg (gk - 1)
            case measure => omega
            case rel => exact ⟨q + 1, true, by omega, by first | rfl | simp, by first | rfl | simp, rfl, hide (by rw [← HB2.out]; rfl)⟩
          | false =>
            have HB3 : Hid (∀ b2 : Bool, b2 = decide ((s[j]'hjl).toNat = (others[q]'hql).toNat) → b2 = (is0 || (decide (0 < j) && decide ((s[j]'hjl) ∈ (bl others).take (q + 1))))) := hide (fun b2 h => by rw [h, ← HB2.out]; rfl)
            clear HB2
            go_wp2_with fail
            go_roundg (gk - 1)
            case measure => omega
            case rel => exact ⟨q + 1, _, by omega, rfl, by first | rfl | simp, rfl, hide (HB3.out _ (by by_cases h : (s[j]'hjl).toNat = (others[q]'hql).toNat <;> simp [h] <;> omega))⟩
        case neg =>
          have hbr : rnB (bl others) j (s[j]'hjl) = b := by
            rw [HRN.out, HBB.out, List.take_of_length_le (by rw [bl_len]; omega)]
          clear HBB
          cases b with
          | true =>
            have HY := hide (HYES.out hbr)
            clear HYES HNO hbr HRN
            go_wp2_with fail
            go_roundg (kk - 1)
            case measure => omega
            case rel => exact ⟨j + 1, by omega, by first | rfl | simp, rfl, HY⟩
          | false =>
            have HY := hide (HNO.out hbr)
            clear HYES HNO hbr HRN
            go_wp2_with fail
            try rw [Exit.noGoto_ret]
            go_ret
            exact ⟨ret_bool HY.out.symm, rfl⟩

set_option maxRecDepth 100000 in
theorem relement_any (s : ByteArray) (w : World) (hs : s.size ≤ 9223372036854775807) : Calls Tryz.prog 61 #[.string s] w fun e w' => e = .returned (.bool (mayE (bl s))) ∧ Below w.heap.size w w' := by
  have HR := hide (refRaw_any s w)
  have HN := hide (fun w => rname_any s ⟨#[45]⟩ w hs (by decide))
  have HM : Hid (mayE (bl s) = (!(rawOf (bl s)).isSome && isNmL (bl ⟨#[45]⟩) (bl s))) := hide rfl
  obtain ⟨R, hR⟩ : ∃ R, R = mayE (bl s) := ⟨_, rfl⟩
  rw [← hR] at HM ⊢
  obtain ⟨r, hr⟩ : ∃ r, r = (rawOf (bl s)).isSome := ⟨_, rfl⟩
  obtain ⟨r2, hr2⟩ : ∃ r2, r2 = (rawOf (bl s)).getD false := ⟨_, rfl⟩
  obtain ⟨q, hq⟩ : ∃ q, q = isNmL (bl ⟨#[45]⟩) (bl s) := ⟨_, rfl⟩
  rw [← hr, ← hr2] at HR
  rw [← hq] at HN
  rw [← hr, ← hq] at HM
  clear hr hr2 hq hR
  cases q with
  | true =>
    go_enter Tryz.func61, Tryz.ntmps61
    go_wp2_with fail
    refine HR.out.mono ?_
    rintro e w1 ⟨rfl, hb⟩
    have HB := hide hb
    clear hb HR
    go_wp2_with fail
    refine (HN.out _).mono ?_
    rintro e w2 ⟨rfl, rfl⟩
    go_wp2_with fail
    go_ret
    exact ⟨ret_bool (by rw [HM.out, Bool.and_true]), HB.out⟩
  | false =>
    go_enter Tryz.func61, Tryz.ntmps61
    go_wp2_with fail
    refine HR.out.mono ?_
    rintro e w1 ⟨rfl, hb⟩
    have HB := hide hb
    clear hb HR
    go_wp2_with fail
    refine (HN.out _).mono ?_
    rintro e w2 ⟨rfl, rfl⟩
    go_wp2_with fail
    go_ret
    exact ⟨ret_bool (by rw [HM.out, Bool.and_false]), HB.out⟩
end Go.Proofs.YtbcadeikdmlpoaaGreatDoor.Dm
