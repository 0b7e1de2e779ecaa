/-
  What url.letter, url.goesOn and url.Scheme answer.
-/
import Derived.Test.YtclbkemfgmnfcaaUP1
namespace Go.Proofs.Ytclbkemfgmnfcaa
open Go.RowKit
open Utf1

def letA (n : Nat) : Bool := decide ((97 ≤ n ∧ n ≤ 122) ∨ (65 ≤ n ∧ n ≤ 90))
def goB (n : Nat) : Bool := decide ((48 ≤ n ∧ n ≤ 57) ∨ n = 43 ∨ n = 45 ∨ n = 46)

set_option maxHeartbeats 4000000 in
theorem letter_any (n : Nat) (hn : n < 256) (w : World) :
    Calls Try.prog 17 #[.int .u8 (n : Int)] w fun e w' => e = .returned (.bool (letA n)) ∧ w' = w := by
  have HL : Hid (∀ b, decide ((97 ≤ n ∧ n ≤ 122) ∨ (65 ≤ n ∧ n ≤ 90)) = b → letA n = b) := hide (fun b h => h)
  rcases (show n < 65 ∨ (65 ≤ n ∧ n ≤ 90) ∨ (90 < n ∧ n < 97) ∨ (97 ≤ n ∧ n ≤ 122) ∨ 122 < n from by omega) with h | h | h | h | h
  · have HN := hide (HL.out false (decide_eq_false (by omega)))
    have d97 : decide ((97 : Int) ≤ (n : Int)) = false := decide_eq_false (by omega)
    have d65 : decide ((65 : Int) ≤ (n : Int)) = false := decide_eq_false (by omega)
    clear HL h
    go_enter Try.func17, Try.ntmps17
    go_wp2_with fail
    go_ret
    rw [HN.out]
    exact ⟨rfl, rfl⟩
  · have HN := hide (HL.out true (decide_eq_true (by omega)))
    have d97 : decide ((97 : Int) ≤ (n : Int)) = false := decide_eq_false (by omega)
    have d65 : decide ((65 : Int) ≤ (n : Int)) = true := decide_eq_true (by omega)
    have d90 : decide ((n : Int) ≤ 90) = true := decide_eq_true (by omega)
    clear HL h
    go_enter Try.func17, Try.ntmps17
    go_wp2_with fail
    go_ret
    rw [HN.out]
    exact ⟨rfl, rfl⟩
  · have HN := hide (HL.out false (decide_eq_false (by omega)))
    have d97 : decide ((97 : Int) ≤ (n : Int)) = false := decide_eq_false (by omega)
    have d65 : decide ((65 : Int) ≤ (n : Int)) = true := decide_eq_true (by omega)
    have d90 : decide ((n : Int) ≤ 90) = false := decide_eq_false (by omega)
    clear HL h
    go_enter Try.func17, Try.ntmps17
    go_wp2_with fail
    go_ret
    rw [HN.out]
    exact ⟨rfl, rfl⟩
  · have HN := hide (HL.out true (decide_eq_true (by omega)))
    have d97 : decide ((97 : Int) ≤ (n : Int)) = true := decide_eq_true (by omega)
    have d122 : decide ((n : Int) ≤ 122) = true := decide_eq_true (by omega)
    clear HL h
    go_enter Try.func17, Try.ntmps17
    go_wp2_with fail
    go_ret
    rw [HN.out]
    exact ⟨rfl, rfl⟩
  · have HN := hide (HL.out false (decide_eq_false (by omega)))
    have d97 : decide ((97 : Int) ≤ (n : Int)) = true := decide_eq_true (by omega)
    have d122 : decide ((n : Int) ≤ 122) = false := decide_eq_false (by omega)
    have d65 : decide ((65 : Int) ≤ (n : Int)) = true := decide_eq_true (by omega)
    have d90 : decide ((n : Int) ≤ 90) = false := decide_eq_false (by omega)
    clear HL h
    go_enter Try.func17, Try.ntmps17
    go_wp2_with fail
    go_ret
    rw [HN.out]
    exact ⟨rfl, rfl⟩

set_option maxHeartbeats 4000000 in
theorem goesOn_any (n : Nat) (hn : n < 256) (w : World) :
    Calls Try.prog 18 #[.int .u8 (n : Int)] w fun e w' => e = .returned (.bool (goB n)) ∧ w' = w := by
  have HL : Hid (∀ b, decide ((48 ≤ n ∧ n ≤ 57) ∨ n = 43 ∨ n = 45 ∨ n = 46) = b → goB n = b) := hide (fun b h => h)
  rcases (show (48 ≤ n ∧ n ≤ 57) ∨ n = 43 ∨ n = 45 ∨ n = 46 ∨ (n < 48 ∧ n ≠ 43 ∧ n ≠ 45 ∧ n ≠ 46) ∨ 57 < n from by omega) with h | h | h | h | h | h
  · have HN := hide (HL.out true (decide_eq_true (by omega)))
    have d48 : decide ((48 : Int) ≤ (n : Int)) = true := decide_eq_true (by omega)
    have d57 : decide ((n : Int) ≤ 57) = true := decide_eq_true (by omega)
    clear HL h
    go_enter Try.func18, Try.ntmps18
    go_wp2_with fail
    go_ret
    rw [HN.out]
    exact ⟨rfl, rfl⟩
  · have HN := hide (HL.out true (decide_eq_true (by omega)))
    have d48 : decide ((48 : Int) ≤ (n : Int)) = false := decide_eq_false (by omega)
    have q43 : ((n : Int) == 43) = true := beq_iff_eq.2 (by omega)
    clear HL h
    go_enter Try.func18, Try.ntmps18
    go_wp2_with fail
    go_ret
    rw [HN.out]
    exact ⟨rfl, rfl⟩
  · have HN := hide (HL.out true (decide_eq_true (by omega)))
    have d48 : decide ((48 : Int) ≤ (n : Int)) = false := decide_eq_false (by omega)
    have q43 : ((n : Int) == 43) = false := beq_eq_false_iff_ne.2 (by omega)
    have q45 : ((n : Int) == 45) = true := beq_iff_eq.2 (by omega)
    clear HL h
    go_enter Try.func18, Try.ntmps18
    go_wp2_with fail
    go_ret
    rw [HN.out]
    exact ⟨rfl, rfl⟩
  · have HN := hide (HL.out true (decide_eq_true (by omega)))
    have d48 : decide ((48 : Int) ≤ (n : Int)) = false := decide_eq_false (by omega)
    have q43 : ((n : Int) == 43) = false := beq_eq_false_iff_ne.2 (by omega)
    have q45 : ((n : Int) == 45) = false := beq_eq_false_iff_ne.2 (by omega)
    have q46 : ((n : Int) == 46) = true := beq_iff_eq.2 (by omega)
    clear HL h
    go_enter Try.func18, Try.ntmps18
    go_wp2_with fail
    go_ret
    rw [HN.out]
    exact ⟨rfl, rfl⟩
  · have HN := hide (HL.out false (decide_eq_false (by omega)))
    have d48 : decide ((48 : Int) ≤ (n : Int)) = false := decide_eq_false (by omega)
    have q43 : ((n : Int) == 43) = false := beq_eq_false_iff_ne.2 (by omega)
    have q45 : ((n : Int) == 45) = false := beq_eq_false_iff_ne.2 (by omega)
    have q46 : ((n : Int) == 46) = false := beq_eq_false_iff_ne.2 (by omega)
    clear HL h
    go_enter Try.func18, Try.ntmps18
    go_wp2_with fail
    go_ret
    rw [HN.out]
    exact ⟨rfl, rfl⟩
  · have HN := hide (HL.out false (decide_eq_false (by omega)))
    have d48 : decide ((48 : Int) ≤ (n : Int)) = true := decide_eq_true (by omega)
    have d57 : decide ((n : Int) ≤ 57) = false := decide_eq_false (by omega)
    have q43 : ((n : Int) == 43) = false := beq_eq_false_iff_ne.2 (by omega)
    have q45 : ((n : Int) == 45) = false := beq_eq_false_iff_ne.2 (by omega)
    have q46 : ((n : Int) == 46) = false := beq_eq_false_iff_ne.2 (by omega)
    clear HL h
    go_enter Try.func18, Try.ntmps18
    go_wp2_with fail
    go_ret
    rw [HN.out]
    exact ⟨rfl, rfl⟩

theorem lower_get {b : List UInt8} {p : Nat} {c : UInt8} (h : b[p]? = some c) : (lower b)[p]? = some (low8 c) := by
  unfold lower
  rw [List.getElem?_map, h]
  rfl
theorem lower_take (b : List UInt8) (p : Nat) : lower (b.take p) = (lower b).take p := by
  unfold lower
  rw [List.map_take]
theorem lower_length (b : List UInt8) : (lower b).length = b.length := by
  unfold lower
  rw [List.length_map]
theorem low8_small {c : UInt8} (h : ¬ (65 ≤ c.toNat ∧ c.toNat ≤ 90)) : low8 c = c := by
  unfold low8
  rw [if_neg h]
theorem low8_let {c : UInt8} (h : letA c.toNat = true) : 97 ≤ (low8 c).toNat ∧ (low8 c).toNat ≤ 122 := by
  have h := of_decide_eq_true h
  rw [low8_toNat]
  unfold lowN
  split <;> omega
/-- One byte of a place, by what it is. -/
theorem sch_letter {b : List UInt8} {p : Nat} {c : UInt8} (h : b[p]? = some c) (hl : letA c.toNat = true) : schP (lower b) p = schP (lower b) (p + 1) := by
  have hr := low8_let hl
  refine schP_go (lower_get h) (ne_of_toNat ?_) (.inl (letB_yes hr.1 hr.2))
  intro e
  have e : (low8 c).toNat = 58 := e
  omega
theorem sch_goes {b : List UInt8} {p : Nat} {c : UInt8} (h : b[p]? = some c) (h0 : p ≠ 0) (hg : goB c.toNat = true) : schP (lower b) p = schP (lower b) (p + 1) := by
  have hg := of_decide_eq_true hg
  have hs : low8 c = c := low8_small (by omega)
  have hb := lower_get h
  rw [hs] at hb
  refine schP_go hb (ne_of_toNat ?_) (.inr ⟨h0, schB_yes (by omega)⟩)
  intro e
  have e : c.toNat = 58 := e
  omega
theorem sch_hit {b : List UInt8} {p : Nat} {c : UInt8} (h : b[p]? = some c) (h0 : p ≠ 0) (hc : c.toNat = 58) : schP (lower b) p = some (lower (b.take p)) := by
  have e : c = 58 := UInt8.toNat_inj.1 hc
  rw [e] at h
  rw [lower_take, schP_hit (lower_get h) h0]
theorem sch_miss {b : List UInt8} {p : Nat} {c : UInt8} (h : b[p]? = some c) (hl : letA c.toNat = false) (ho : p = 0 ∨ (c.toNat ≠ 58 ∧ goB c.toNat = false)) : schP (lower b) p = none := by
  have hl := of_decide_eq_false hl
  have hs : low8 c = c := low8_small (by omega)
  have hb := lower_get h
  rw [hs] at hb
  refine schP_miss hb (letB_no (by omega)) ?_
  rcases ho with ho | ⟨h1, h2⟩
  · exact .inl ho
  · have h2 := of_decide_eq_false h2
    exact .inr ⟨ne_of_toNat h1, schB_no (by omega) (by omega) (by omega)⟩

set_option maxHeartbeats 4000000 in
theorem scheme_any : SchemeC := by
  intro s w hs
  have c1 := fun w => bare_any s w hs
  have hbl := bare_len (bl s)
  rw [bl_len] at hbl
  have hbs : (⟨(bare (bl s)).toArray⟩ : ByteArray).size ≤ 100000 := by rw [size_mk]; omega
  have HS : Hid (scheme (bl s) = schA (lower (bl (⟨(bare (bl s)).toArray⟩ : ByteArray)))) := hide rfl
  generalize (⟨(bare (bl s)).toArray⟩ : ByteArray) = B at c1 hbs HS
  clear hbl
  go_enter Try.func10, Try.ntmps10
  go_wp2_with fail
  go_step3
  go_wp2_with fail
  refine (c1 _).mono ?_
  rintro e w2 ⟨rfl, HB⟩
  clear c1
  go_wp2_with fail
  go_step3
  go_wp2_with fail
  go_loopg [5] B.size (fun g v wx => wx = w2 ∧ ∃ p : Nat, p + g = B.size ∧ v = .int .i64 (p : Int) ∧ Hid (scheme (bl s) = schP (lower (bl B)) p))
  case atStart => exact ⟨rfl, 0, by omega, rfl, hide (by rw [HS.out, schP_zero])⟩
  case round =>
    obtain ⟨rfl, p, hp, rfl, HD⟩ := hrel
    by_cases hlt : p < B.size
    · obtain ⟨c, hc⟩ := getK B p hlt
      have i00 := fun w => idxK hc w
      have hcb := c.toNat_lt
      have HX : Hid (c.toNat = 58 → p ≠ 0 → schS (scheme (bl s)) = ⟨(lower (bl (B.extract 0 p))).toArray⟩ ∧ (scheme (bl s)).isSome = true) := hide (fun h h0 => by
        rw [HD.out, sch_hit hc h0 h, extract_bl]
        exact ⟨by simp [schS], rfl⟩)
      have HLE : Hid (letA c.toNat = true → scheme (bl s) = schP (lower (bl B)) (p + 1)) := hide (fun h => HD.out.trans (sch_letter hc h))
      have HGO : Hid (p ≠ 0 → goB c.toNat = true → scheme (bl s) = schP (lower (bl B)) (p + 1)) := hide (fun h0 h => HD.out.trans (sch_goes hc h0 h))
      have HMI : Hid (letA c.toNat = false → (p = 0 ∨ (c.toNat ≠ 58 ∧ goB c.toNat = false)) → scheme (bl s) = none) := hide (fun hl h => HD.out.trans (sch_miss hc hl h))
      obtain ⟨n, hn⟩ : ∃ n, n = c.toNat := ⟨_, rfl⟩
      rw [← hn] at i00 hcb HX HLE HGO HMI
      have i0 : ∀ w, (Instr.index 9 (.string B) (.int .i64 (p : Int))).run Try.prog w = .ok (.int .u8 (n : Int)) w := i00
      have cl := fun w => letter_any n hcb w
      have cg := fun w => goesOn_any n hcb w
      clear i00 hn hc HD
      cases hle : letA n with
      | true =>
        have HN := hide (HLE.out hle)
        rw [hle] at cl
        clear HX HLE HGO HMI cg hle
        go_wp2_with fail
        refine (cl _).mono ?_
        rintro e w3 ⟨rfl, rfl⟩
        go_wp2_with fail
        go_roundg (gk - 1)
        case measure => omega
        case rel => exact ⟨rfl, p + 1, by omega, by first | rfl | simp, HN⟩
      | false =>
        rw [hle] at cl
        by_cases hz : p = 0
        · have HN := hide (HMI.out hle (.inl hz))
          have dp : ¬ 0 < p := by omega
          clear HX HLE HGO HMI cg hle hz
          go_wp2_with fail
          refine (cl _).mono ?_
          rintro e w3 ⟨rfl, rfl⟩
          go_wp2_with fail
          rw [Exit.noGoto_ret]
          go_ret2
          rw [HN.out]
          exact ⟨rfl, HB⟩
        · have dp : 0 < p := by omega
          cases hgo : goB n with
          | true =>
            rw [hgo] at cg
            have HN := hide (HGO.out hz hgo)
            clear HX HLE HGO HMI hle hgo hz
            go_wp2_with fail
            refine (cl _).mono ?_
            rintro e w3 ⟨rfl, rfl⟩
            go_wp2_with fail
            refine (cg _).mono ?_
            rintro e w4 ⟨rfl, rfl⟩
            go_wp2_with fail
            go_roundg (gk - 1)
            case measure => omega
            case rel => exact ⟨rfl, p + 1, by omega, by first | rfl | simp, HN⟩
          | false =>
            rw [hgo] at cg
            by_cases h58 : n = 58
            · have HN := hide (HX.out h58 hz)
              have q58 : ((n : Int) == 58) = true := beq_iff_eq.2 (by omega)
              have cw := fun w => lower_any (B.extract 0 p) w
              clear HX HLE HGO HMI hle hgo hz h58
              go_wp2_with fail
              refine (cl _).mono ?_
              rintro e w3 ⟨rfl, rfl⟩
              go_wp2_with fail
              refine (cg _).mono ?_
              rintro e w4 ⟨rfl, rfl⟩
              go_wp2_with fail
              refine (cw _).mono ?_
              rintro e w5 ⟨rfl, hb5⟩
              go_wp2_with fail
              rw [Exit.noGoto_ret]
              go_ret2
              rw [HN.out.1, HN.out.2]
              exact ⟨rfl, bel2 HB hb5⟩
            · have HN := hide (HMI.out hle (.inr ⟨h58, hgo⟩))
              have q58 : ((n : Int) == 58) = false := beq_eq_false_iff_ne.2 (by omega)
              clear HX HLE HGO HMI hle hgo hz h58
              go_wp2_with fail
              refine (cl _).mono ?_
              rintro e w3 ⟨rfl, rfl⟩
              go_wp2_with fail
              refine (cg _).mono ?_
              rintro e w4 ⟨rfl, rfl⟩
              go_wp2_with fail
              rw [Exit.noGoto_ret]
              go_ret2
              rw [HN.out]
              exact ⟨rfl, HB⟩
    · have HN : Hid (scheme (bl s) = none) := hide (by rw [HD.out, schP_end (by rw [lower_length, bl_len]; omega)])
      clear HD
      go_wp2_with fail
      rw [Exit.noGoto_ret]
      go_ret2
      rw [HN.out]
      exact ⟨rfl, HB⟩
end Go.Proofs.Ytclbkemfgmnfcaa
