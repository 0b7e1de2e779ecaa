/-
  The law UrlPlain, walked: it answers true at every path and every scheme.
-/
import Derived.Test.YtclbkemfgmnfcaaUC
namespace Go.Proofs.Ytclbkemfgmnfcaa
open Go.RowKit
open Utf1

/-- So far all bytes are as asked. -/
def allUpto (P : UInt8 → Prop) (l : List UInt8) (p : Nat) : Prop := ∀ j c, j < p → l[j]? = some c → P c
theorem allUpto_more {P : UInt8 → Prop} {l : List UInt8} {p : Nat} {c : UInt8} (h : allUpto P l p) (hc : l[p]? = some c) (ho : P c) : allUpto P l (p + 1) := by
  intro j d hj hd
  by_cases e : j = p
  · subst e
    rw [hc] at hd
    cases hd
    exact ho
  · exact h j d (by omega) hd
theorem allUpto_all {P : UInt8 → Prop} {l : List UInt8} {p : Nat} (h : allUpto P l p) (hl : l.length ≤ p) : ∀ c ∈ l, P c := by
  intro c hc
  obtain ⟨j, hj, e⟩ := List.mem_iff_getElem.1 hc
  exact h j c (by omega) (by rw [List.getElem?_eq_getElem hj, e])

/-- What is asked behind both loops. -/
theorem plain_tail (s t : ByteArray) (hs : ∀ c ∈ bl s, pathB c) (ht : ∀ c ∈ bl t, letB c = true) (h0 : 0 < t.size) :
    scheme (bl (t ++ ⟨#[58]⟩ ++ s)) = some (bl t) ∧ allowed (bl ((⟨#[47]⟩ : ByteArray) ++ s)) [] = true ∧ allowed (bl s) [] = true ∧ allowed (bl ((⟨#[47, 47]⟩ : ByteArray) ++ s)) [bl t] = false ∧
      allowed (bl (t ++ ⟨#[58, 47, 47]⟩ ++ s)) [bl t] = true ∧ allowed (bl (t ++ ⟨#[58]⟩ ++ s)) [] = false := by
  have hne : bl t ≠ [] := by
    intro e
    have := congrArg List.length e
    rw [bl_len, List.length_nil] at this
    omega
  have e1 : bl (t ++ ⟨#[58]⟩ ++ s) = bl t ++ 58 :: bl s := by rw [app_bl, app_bl, List.append_assoc]; rfl
  have e2 : bl (t ++ ⟨#[58, 47, 47]⟩ ++ s) = bl t ++ 58 :: (47 :: 47 :: bl s) := by rw [app_bl, app_bl, List.append_assoc]; rfl
  have s1 : scheme (bl t ++ 58 :: bl s) = some (bl t) := path_scheme (bl t) (bl s) hne ht (fun c hc => .inl (hs c hc))
  have s2 : scheme (bl t ++ 58 :: (47 :: 47 :: bl s)) = some (bl t) := path_scheme (bl t) _ hne ht (by
    intro c hc
    rcases List.mem_cons.1 hc with rfl | hc
    · exact .inr rfl
    · rcases List.mem_cons.1 hc with rfl | hc
      · exact .inr rfl
      · exact .inl (hs c hc))
  refine ⟨by rw [e1]; exact s1, ?_, path_ok _ hs _, ?_, ?_, ?_⟩
  · rw [app_bl]
    exact path_slash _ hs _
  · rw [app_bl]
    exact path_two _ hs _
  · rw [e2, allowed_one _ _ _ s2, decide_eq_true rfl]
  · rw [e1]
    cases h : allowed (bl t ++ 58 :: bl s) [] with
    | false => rfl
    | true =>
      have := allowed_none _ h
      rw [s1] at this
      cases this

set_option maxHeartbeats 8000000 in
theorem lawPlain_walk (hS : SchemeC) (hA : AllowedC) (s t : ByteArray) (w : World) :
    Calls Try.prog 7 #[.string s, .string t] w fun e w' => e = .returned (.bool true) ∧ Below w.heap.size w w' := by
  have ca := awake_any hS hA
  by_cases hs : s.size ≤ 1000
  · by_cases h0 : t.size = 0
    · clear hS hA
      go_enter Try.func7, Try.ntmps7
      go_wp2_with fail
      refine (ca _).mono ?_
      rintro e w1 ⟨rfl, hb1⟩
      go_wp2_with fail
      go_ret
      exact ⟨rfl, hb1⟩
    · by_cases ht : t.size ≤ 100
      · have h1 : 1 ≤ t.size := by omega
        have hlt1 : ¬ (t.size : Int) < 1 := by omega
        have HS := hide hS
        have HA := hide hA
        clear hS hA
        go_enter Try.func7, Try.ntmps7
        go_wp2_with fail
        refine (ca _).mono ?_
        rintro e w1 ⟨rfl, hb1⟩
        clear ca
        have HB1 := hide hb1
        clear hb1
        go_wp2_with fail
        go_loopg [6] s.size (fun g v wx => wx = w1 ∧ ∃ i : Nat, i + g = s.size ∧ v = .int .i64 (i : Int) ∧ Hid (allUpto pathB (bl s) i))
        case atStart => exact ⟨rfl, 0, by omega, rfl, hide (fun j z hj => by omega)⟩
        case round =>
          obtain ⟨rfl, i, hi, rfl, HU⟩ := hrel
          by_cases hlt : i < s.size
          · obtain ⟨c, hc⟩ := getK s i hlt
            have i00 := fun w => idxK hc w
            have hcb := c.toNat_lt
            have HN0 : Hid (((97 ≤ c.toNat ∧ c.toNat ≤ 122) ∨ (48 ≤ c.toNat ∧ c.toNat ≤ 57) ∨ c.toNat = 95) → allUpto pathB (bl s) (i + 1)) := hide (fun ho => allUpto_more HU.out hc (by
              rcases ho with h | h | h
              · exact .inl h
              · exact .inr (.inl h)
              · exact .inr (.inr (UInt8.toNat_inj.1 h))))
            obtain ⟨n, hn⟩ : ∃ n, n = c.toNat := ⟨_, rfl⟩
            rw [← hn] at i00 hcb HN0
            have i0 : ∀ w, (Instr.index 9 (.string s) (.int .i64 (i : Int))).run Try.prog w = .ok (.int .u8 (n : Int)) w := i00
            clear i00 hn hc HU
            rcases (show (97 ≤ n ∧ n ≤ 122) ∨ (48 ≤ n ∧ n ≤ 57) ∨ n = 95 ∨ n < 48 ∨ (57 < n ∧ n < 97 ∧ n ≠ 95) ∨ 122 < n from by omega) with h | h | h | h | h | h
            · have HN := hide (HN0.out (.inl h))
              have d97 : decide ((97 : Int) ≤ (n : Int)) = true := decide_eq_true (by omega)
              have d122 : decide ((n : Int) ≤ 122) = true := decide_eq_true (by omega)
              clear HN0 h
              go_wp2_with fail
              go_roundg (gk - 1)
              case measure => omega
              case rel => exact ⟨rfl, i + 1, by omega, by first | rfl | simp, HN⟩
            · have HN := hide (HN0.out (.inr (.inl h)))
              have d97 : decide ((97 : Int) ≤ (n : Int)) = false := decide_eq_false (by omega)
              have d48 : decide ((48 : Int) ≤ (n : Int)) = true := decide_eq_true (by omega)
              have d57 : decide ((n : Int) ≤ 57) = true := decide_eq_true (by omega)
              clear HN0 h
              go_wp2_with fail
              go_roundg (gk - 1)
              case measure => omega
              case rel => exact ⟨rfl, i + 1, by omega, by first | rfl | simp, HN⟩
            · have HN := hide (HN0.out (.inr (.inr h)))
              have d97 : decide ((97 : Int) ≤ (n : Int)) = false := decide_eq_false (by omega)
              have d48 : decide ((48 : Int) ≤ (n : Int)) = true := decide_eq_true (by omega)
              have d57 : decide ((n : Int) ≤ 57) = false := decide_eq_false (by omega)
              have q95 : ((n : Int) == 95) = true := beq_iff_eq.2 (by omega)
              clear HN0 h
              go_wp2_with fail
              go_roundg (gk - 1)
              case measure => omega
              case rel => exact ⟨rfl, i + 1, by omega, by first | rfl | simp, HN⟩
            · have d97 : decide ((97 : Int) ≤ (n : Int)) = false := decide_eq_false (by omega)
              have d48 : decide ((48 : Int) ≤ (n : Int)) = false := decide_eq_false (by omega)
              have q95 : ((n : Int) == 95) = false := beq_eq_false_iff_ne.2 (by omega)
              clear HN0 h
              go_wp2_with fail
              go_ret
              exact ⟨rfl, HB1.out⟩
            · have d97 : decide ((97 : Int) ≤ (n : Int)) = false := decide_eq_false (by omega)
              have d48 : decide ((48 : Int) ≤ (n : Int)) = true := decide_eq_true (by omega)
              have d57 : decide ((n : Int) ≤ 57) = false := decide_eq_false (by omega)
              have q95 : ((n : Int) == 95) = false := beq_eq_false_iff_ne.2 (by omega)
              clear HN0 h
              go_wp2_with fail
              go_ret
              exact ⟨rfl, HB1.out⟩
            · have d97 : decide ((97 : Int) ≤ (n : Int)) = true := decide_eq_true (by omega)
              have d122 : decide ((n : Int) ≤ 122) = false := decide_eq_false (by omega)
              have d48 : decide ((48 : Int) ≤ (n : Int)) = true := decide_eq_true (by omega)
              have d57 : decide ((n : Int) ≤ 57) = false := decide_eq_false (by omega)
              have q95 : ((n : Int) == 95) = false := beq_eq_false_iff_ne.2 (by omega)
              clear HN0 h
              go_wp2_with fail
              go_ret
              exact ⟨rfl, HB1.out⟩
          · have HP : Hid (∀ c ∈ bl s, pathB c) := hide (allUpto_all HU.out (by rw [bl_len]; omega))
            clear HU
            obtain ⟨wo, hwo⟩ : ∃ wo, wo = wr := ⟨_, rfl⟩
            subst hwo
            go_wp2_with fail
            go_loopg [8] t.size (fun g v wx => wx = wo ∧ ∃ k : Nat, k + g = t.size ∧ v = .int .i64 (k : Int) ∧ Hid (allUpto (fun c => letB c = true) (bl t) k))
            case atStart => exact ⟨rfl, 0, by omega, rfl, hide (fun j z hj => by omega)⟩
            case round =>
              obtain ⟨rfl, k, hk, rfl, HU⟩ := hrel
              by_cases hlk : k < t.size
              · obtain ⟨c, hc⟩ := getK t k hlk
                have i00 := fun w => idxK hc w
                have hcb := c.toNat_lt
                have HN0 : Hid ((97 ≤ c.toNat ∧ c.toNat ≤ 122) → allUpto (fun c => letB c = true) (bl t) (k + 1)) := hide (fun ho => allUpto_more HU.out hc (letB_yes ho.1 ho.2))
                obtain ⟨n, hn⟩ : ∃ n, n = c.toNat := ⟨_, rfl⟩
                rw [← hn] at i00 hcb HN0
                have i0 : ∀ w, (Instr.index 9 (.string t) (.int .i64 (k : Int))).run Try.prog w = .ok (.int .u8 (n : Int)) w := i00
                clear i00 hn hc HU
                rcases (show (97 ≤ n ∧ n ≤ 122) ∨ n < 97 ∨ 122 < n from by omega) with h | h | h
                · have HN := hide (HN0.out h)
                  have d97 : decide ((n : Int) < 97) = false := decide_eq_false (by omega)
                  have d122 : decide ((122 : Int) < (n : Int)) = false := decide_eq_false (by omega)
                  clear HN0 h
                  go_wp2_with fail
                  go_roundg (gk - 1)
                  case measure => omega
                  case rel => exact ⟨rfl, k + 1, by omega, by first | rfl | simp, HN⟩
                · have d97 : decide ((n : Int) < 97) = true := decide_eq_true (by omega)
                  clear HN0 h
                  go_wp2_with fail
                  go_ret
                  exact ⟨rfl, HB1.out⟩
                · have d97 : decide ((n : Int) < 97) = false := decide_eq_false (by omega)
                  have d122 : decide ((122 : Int) < (n : Int)) = true := decide_eq_true (by omega)
                  clear HN0 h
                  go_wp2_with fail
                  go_ret
                  exact ⟨rfl, HB1.out⟩
              · have HT := hide (plain_tail s t HP.out (allUpto_all HU.out (by rw [bl_len]; omega)) (by omega))
                have z1 : (t ++ ⟨#[58]⟩ ++ s).size ≤ 100000 := by rw [app_size, app_size]; show _ + 1 + _ ≤ _; omega
                have z2 : ((⟨#[47]⟩ : ByteArray) ++ s).size ≤ 100000 := by rw [app_size]; show 1 + _ ≤ _; omega
                have z3 : ((⟨#[47, 47]⟩ : ByteArray) ++ s).size ≤ 100000 := by rw [app_size]; show 2 + _ ≤ _; omega
                have z4 : (t ++ ⟨#[58, 47, 47]⟩ ++ s).size ≤ 100000 := by rw [app_size, app_size]; show _ + 3 + _ ≤ _; omega
                have k1 : ∀ w, Calls Try.prog 10 #[.string (t ++ ⟨#[58]⟩ ++ s)] w fun e w' => e = .returned (.tuple #[.string t, .bool true]) ∧ Below w.heap.size w w' := fun w => by
                  have := HS.out (t ++ ⟨#[58]⟩ ++ s) w z1
                  rw [HT.out.1] at this
                  exact this
                have k2 : ∀ w, Calls Try.prog 14 #[.string ((⟨#[47]⟩ : ByteArray) ++ s), .slice none 0 0] w fun e w' => e = .returned (.bool true) ∧ Below w.heap.size w w' := fun w => by
                  have := HA.out ((⟨#[47]⟩ : ByteArray) ++ s) _ [] w z2 (by simp) (strArg_nil w)
                  rw [List.map_nil, HT.out.2.1] at this
                  exact this
                have k3 : ∀ w, Calls Try.prog 14 #[.string s, .slice none 0 0] w fun e w' => e = .returned (.bool true) ∧ Below w.heap.size w w' := fun w => by
                  have := HA.out s _ [] w (by omega) (by simp) (strArg_nil w)
                  rw [List.map_nil, HT.out.2.2.1] at this
                  exact this
                have K4 : Hid (∀ w v, StrArg w v [t] → Calls Try.prog 14 #[.string ((⟨#[47, 47]⟩ : ByteArray) ++ s), v] w fun e w' => e = .returned (.bool false) ∧ Below w.heap.size w w') := hide fun w v h => by
                  have := HA.out ((⟨#[47, 47]⟩ : ByteArray) ++ s) v [t] w z3 (by simp) h
                  rw [List.map_singleton, HT.out.2.2.2.1] at this
                  exact this
                have K5 : Hid (∀ w v, StrArg w v [t] → Calls Try.prog 14 #[.string (t ++ ⟨#[58, 47, 47]⟩ ++ s), v] w fun e w' => e = .returned (.bool true) ∧ Below w.heap.size w w') := hide fun w v h => by
                  have := HA.out (t ++ ⟨#[58, 47, 47]⟩ ++ s) v [t] w z4 (by simp) h
                  rw [List.map_singleton, HT.out.2.2.2.2.1] at this
                  exact this
                have k6 : ∀ w, Calls Try.prog 14 #[.string (t ++ ⟨#[58]⟩ ++ s), .slice none 0 0] w fun e w' => e = .returned (.bool false) ∧ Below w.heap.size w w' := fun w => by
                  have := HA.out (t ++ ⟨#[58]⟩ ++ s) _ [] w z1 (by simp) (strArg_nil w)
                  rw [List.map_nil, HT.out.2.2.2.2.2] at this
                  exact this
                have q1 : (t.toList == t.toList) = true := beq_same rfl
                clear HU HP HT HS HA z1 z2 z3 z4
                go_wp2_with fail
                refine (k1 _).mono ?_
                rintro e w2 ⟨rfl, hb2⟩
                go_wp2_with fail
                refine (k2 _).mono ?_
                rintro e w3 ⟨rfl, hb3⟩
                go_wp2_with fail
                refine (k3 _).mono ?_
                rintro e w4 ⟨rfl, hb4⟩
                go_wp2_with fail
                refine (K4.out _ _ (strArg_one _ _ _)).mono ?_
                rintro e w5 ⟨rfl, hb5⟩
                go_wp2_with fail
                refine (K5.out _ _ (strArg_one _ _ _)).mono ?_
                rintro e w6 ⟨rfl, hb6⟩
                go_wp2_with fail
                refine (k6 _).mono ?_
                rintro e w7 ⟨rfl, hb7⟩
                go_wp2_with fail
                go_ret
                exact ⟨rfl, bel2 (bel2 (bel_alloc (bel2 (bel_alloc (bel2 (bel2 (bel2 HB1.out hb2) hb3) hb4) _) hb5) _) hb6) hb7⟩
      · clear hS hA
        go_enter Try.func7, Try.ntmps7
        go_wp2_with fail
        refine (ca _).mono ?_
        rintro e w1 ⟨rfl, hb1⟩
        go_wp2_with fail
        go_ret
        exact ⟨rfl, hb1⟩
  · clear hS hA
    go_enter Try.func7, Try.ntmps7
    go_wp2_with fail
    refine (ca _).mono ?_
    rintro e w1 ⟨rfl, hb1⟩
    go_wp2_with fail
    go_ret
    exact ⟨rfl, hb1⟩
end Go.Proofs.Ytclbkemfgmnfcaa
