/-
  The document's until: how far ahead a byte stands that ends something.
-/
import Derived.Test.YtjmgcdeinjamiaaDoorY1
namespace Go.Proofs.YtjmgcdeinjamiaaDoor
open Go.RowKit
open Utf1

/-- Neither a blank nor one of others. -/
def goesOn (o : List UInt8) (c : UInt8) : Bool := !isBl c && !o.contains c

theorem u8eq (c d : UInt8) : (((c.toNat : Int)) == ((d.toNat : Int))) = decide (c = d) := by
  by_cases h : c = d
  · rw [decide_eq_true h, h]
    simp
  · rw [decide_eq_false h]
    refine beq_eq_false_iff_ne.2 fun e => h ?_
    exact UInt8.toNat_inj.1 (by omega)

set_option maxHeartbeats 8000000 in
theorem until_any (s : ByteArray) (p : Nat) (o : ByteArray) (hp : p ≤ s.size) (hs : s.size ≤ 100000) (ho : o.size ≤ 100000) (w : World) :
    Calls Tryd.prog 50 #[.string s, .int .i64 (p : Int), .string o] w fun e w' => e = .returned (.int .i64 ((p + (((bl s).drop p).takeWhile (goesOn (bl o))).length : Nat) : Int)) ∧ ∃ n, w' = w.drewN n := by
  obtain ⟨R, hR⟩ : ∃ R, R = p + (((bl s).drop p).takeWhile (goesOn (bl o))).length := ⟨_, rfl⟩
  rw [← hR]
  go_enter Tryd.func50, Tryd.ntmps50
  go_wp2_with fail
  go_loopg [1] (s.size - p) (fun g v wr => ∃ q : Nat, q + g = s.size ∧ v = .int .i64 (q : Int) ∧ Hid (∃ n, wr = w.drewN n) ∧ Hid (R = q + (((bl s).drop q).takeWhile (goesOn (bl o))).length))
  case atStart => exact ⟨p, by omega, rfl, hide ⟨0, rfl⟩, hide hR⟩
  case round =>
    obtain ⟨q, hqg, rfl, HW, HR⟩ := hrel
    clear hR
    by_cases hlt : q < s.size
    case neg =>
      have hRq : R = q := by
        rw [HR.out, drop_end hlt]
        rfl
      subst hRq
      have hd : decide ((R : Int) < (s.size : Int)) = false := decide_eq_false (by omega)
      clear HR
      go_wp2_with fail
      go_ret
      exact ⟨rfl, HW.out⟩
    obtain ⟨c, hc, hge⟩ := dropc hlt
    have i0 := fun w => idxK hge w
    have hb := fun w => blank_any c w
    have hd : decide ((q : Int) < (s.size : Int)) = true := decide_eq_true (by omega)
    have HEQ := hide (fun d : UInt8 => u8eq c d)
    obtain ⟨z, hz⟩ : ∃ z : Int, z = (c.toNat : Int) := ⟨_, rfl⟩
    rw [← hz] at i0 hb HEQ
    cases hbc : isBl c with
    | true =>
      rw [hbc] at hb
      have hRq : R = q := by
        rw [HR.out, hc, List.takeWhile_cons, if_neg (by unfold goesOn; rw [hbc]; simp)]
        rfl
      subst hRq
      have HBB := hide hb
      clear hb HR hc hge hbc hz HEQ
      go_wp2_with fail
      refine (HBB.out _).mono ?_
      rintro e w1 ⟨rfl, rfl⟩
      go_wp2_with fail
      go_ret
      exact ⟨rfl, HW.out⟩
    | false =>
      rw [hbc] at hb
      have HIN : Hid (c ∈ bl o → R = q) := hide (by
        intro h
        rw [HR.out, hc, List.takeWhile_cons, if_neg (by unfold goesOn; rw [List.contains_iff_mem.2 h]; simp)]
        rfl)
      have HOUT : Hid (c ∉ bl o → R = (q + 1) + (((bl s).drop (q + 1)).takeWhile (goesOn (bl o))).length) := hide (by
        intro h
        have hcn : (bl o).contains c = false := by
          rw [Bool.eq_false_iff]
          exact fun e => h (List.contains_iff_mem.1 e)
        rw [HR.out, hc, List.takeWhile_cons, if_pos (by unfold goesOn; rw [hbc, hcn]; rfl), List.length_cons]
        omega)
      have HBB := hide hb
      clear hb HR hc hge hbc hz
      go_wp2_with fail
      refine (HBB.out _).mono ?_
      rintro e w1 ⟨rfl, rfl⟩
      go_wp2_with fail
      go_loopg [7] o.size (fun g v wr => ∃ j : Nat, j + g = o.size ∧ v = .int .i64 (j : Int) ∧ Hid (∃ n, wr = w.drewN n) ∧ Hid (∀ x ∈ (bl o).take j, c ≠ x))
      case atStart => exact ⟨0, by omega, rfl, HW, hide (by simp)⟩
      case round =>
        obtain ⟨j, hjg, rfl, HW2, HNO⟩ := hrel
        by_cases hjl : j < o.size
        · obtain ⟨d, hdd, hge⟩ := dropc hjl
          have i1 := fun w => idxK hge w
          have y0 := HEQ.out d
          obtain ⟨y, hy⟩ : ∃ y : Int, y = (d.toNat : Int) := ⟨_, rfl⟩
          rw [← hy] at i1 y0
          by_cases hcd : c = d
          · rw [decide_eq_true hcd] at y0
            have hRq : R = q := HIN.out (by rw [hcd]; exact List.mem_of_getElem? hge)
            subst hRq
            clear hdd hge hy hcd HNO
            go_wp2_with fail
            go_region
            all_goals (go_wp2_with fail; go_ret)
            obtain ⟨n, hn⟩ := HW2.out
            exact ⟨rfl, n + 1, by rw [hn]; rfl⟩
          · rw [decide_eq_false hcd] at y0
            have HN2 : Hid (∀ x ∈ (bl o).take (j + 1), c ≠ x) := hide (by
              intro x hx
              rw [List.take_add_one, hge] at hx
              rcases List.mem_append.1 hx with hx | hx
              · exact HNO.out x hx
              · have : x = d := by simpa using hx
                rw [this]
                exact hcd)
            clear hdd hge hy hcd HNO
            go_wp2_with fail
            go_region
            all_goals (go_wp2_with fail; go_roundg (gk - 1))
            case measure => omega
            case rel =>
              refine ⟨j + 1, by omega, by first | rfl | (rw [wrap64_in _ ⟨by omega, by omega⟩]; rfl) | simp, hide ?_, HN2⟩
              obtain ⟨n, hn⟩ := HW2.out
              exact ⟨n + 1, by rw [hn]; rfl⟩
        · have HR2 := hide (HOUT.out (by
            intro h
            have := HNO.out c (by rw [List.take_of_length_le (by rw [bl_len]; omega)]; exact h)
            exact this rfl))
          clear HNO
          go_wp2_with fail
          go_roundg (s.size - q - 1)
          case measure => omega
          case rel => exact ⟨q + 1, by omega, by first | rfl | (rw [wrap64_in _ ⟨by omega, by omega⟩]; rfl) | simp, HW2, HR2⟩
end Go.Proofs.YtjmgcdeinjamiaaDoor
