/-
  What tok.begins answers at every text that is not empty.
-/
import Derived.Test.YtholfdfjapgfbaaDoorT2
namespace Go.Proofs.YtholfdfjapgfbaaDoor
open Go.RowKit
open Utf1

theorem idxK {s : ByteArray} {k : Nat} {c : UInt8} (h : (bl s)[k]? = some c) (w : World) : (Instr.index 9 (.string s) (.int .i64 (k : Int))).run Tryd.prog w = .ok (.int .u8 (c.toNat : Int)) w := by
  have hl : k < s.size := by
    rw [← bl_len]
    exact (List.getElem?_eq_some_iff.1 h).1
  have := idx_run s k 0 hl w
  rw [atN_drop s k hl] at this
  have e : (bl s)[k]'(by rw [bl_len]; exact hl) = c := by
    rw [List.getElem?_eq_getElem (by rw [bl_len]; exact hl)] at h
    exact Option.some.inj h
  rw [e] at this
  exact this
theorem u8b (c : UInt8) (n : Nat) (hn : n < 256) : (((c.toNat : Int)) == (n : Int)) = decide (c = UInt8.ofNat n) := by
  by_cases h : c = UInt8.ofNat n
  · rw [decide_eq_true h]
    rw [(u8_eq hn).1 h]
    simp
  · rw [decide_eq_false h]
    refine beq_eq_false_iff_ne.2 fun e => h ((u8_eq hn).2 (by omega))

theorem prefix4 (d : UInt8) (u : List UInt8) : [60, 33, 45, 45].isPrefixOf (60 :: d :: u) = [33, 45, 45].isPrefixOf (d :: u) := by
  simp [List.isPrefixOf]

set_option maxHeartbeats 4000000 in
theorem begins_any (s : ByteArray) (w : World) (hne : 1 ≤ s.size) :
    Calls Tryd.prog 13 #[.string s] w fun e w' => e = .returned (.int .i64 (beg (bl s) : Int)) ∧ w' = w := by
  have hl := bl_len s
  rcases hb : bl s with _ | ⟨c, t⟩
  · rw [hb] at hl
    simp at hl
    omega
  have i00 := fun w => idxK (s := s) (k := 0) (c := c) (by rw [hb]; rfl) w
  have z0 := u8b c 60 (by decide)
  obtain ⟨z, hz⟩ : ∃ z : Int, z = (c.toNat : Int) := ⟨_, rfl⟩
  rw [← hz] at z0
  have i0 : ∀ w, (Instr.index 9 (.string s) (.int .i64 0)).run Tryd.prog w = .ok (.int .u8 z) w := by
    rw [hz]
    exact i00
  clear hz i00
  by_cases hc : c = 60
  case neg =>
    have zb : (z != 60) = true := by
      unfold bne
      rw [show (z == 60) = decide (c = 60) from z0, decide_eq_false hc]
      rfl
    rw [beg_ne t hc]
    clear hb hc z0 hl
    go_enter Tryd.func13, Tryd.ntmps13
    go_wp2
    go_ret
    exact ⟨rfl, rfl⟩
  have zb : (z != 60) = false := by
    unfold bne
    rw [show (z == 60) = decide (c = 60) from z0, decide_eq_true hc]
    rfl
  subst hc
  rw [beg_lt]
  clear z0
  rcases ht : t with _ | ⟨d, u⟩
  · have hs1 : s.size = 1 := by rw [← hl, hb, ht]; rfl
    show Calls _ _ _ _ fun e w' => e = .returned (.int .i64 ((0 : Nat) : Int)) ∧ w' = w
    have HS := hide hs1
    clear hb ht hl
    go_enter Tryd.func13, Tryd.ntmps13
    go_wp2
    go_ret
    exact ⟨rfl, rfl⟩
  subst ht
  have hs2 : 2 ≤ s.size := by rw [← hl, hb]; simp
  have hpre := fun w => Tryd.strings_HasPrefix s ⟨#[60, 33, 45, 45]⟩ w
  have hpv : Lib.hasPrefix s.data.toList (⟨#[60, 33, 45, 45]⟩ : ByteArray).data.toList = [33, 45, 45].isPrefixOf (d :: u) := by
    show [60, 33, 45, 45].isPrefixOf (bl s) = _
    rw [hb, prefix4]
  rw [hpv] at hpre
  clear hpv
  cases hp : [33, 45, 45].isPrefixOf (d :: u) with
  | true =>
    rw [hp] at hpre
    have e1 : beg1 (d :: u) = 1 := by
      unfold beg1
      simp only
      rw [if_pos hp]
    rw [e1]
    clear hb hl hp e1
    go_enter Tryd.func13, Tryd.ntmps13
    go_wp2_with fail
    refine (hpre _).mono ?_
    rintro e w1 ⟨rfl, rfl⟩
    go_wp2_with fail
    go_ret
    exact ⟨rfl, rfl⟩
  | false =>
    rw [hp] at hpre
    have i11 := fun w => idxK (s := s) (k := 1) (c := d) (by rw [hb]; rfl) w
    have y33 := u8b d 33 (by decide)
    have y63 := u8b d 63 (by decide)
    have y47 := u8b d 47 (by decide)
    have hlet := fun w => isLetter_any d w
    obtain ⟨y, hy⟩ : ∃ y : Int, y = (d.toNat : Int) := ⟨_, rfl⟩
    rw [← hy] at y33 y63 y47 hlet
    have i1 : ∀ w, (Instr.index 9 (.string s) (.int .i64 1)).run Tryd.prog w = .ok (.int .u8 y) w := by
      rw [hy]
      exact i11
    clear hy i11
    have y33 : (y == 33) = decide (d = 33) := y33
    have y63 : (y == 63) = decide (d = 63) := y63
    have y47 : (y != 47) = !decide (d = 47) := congrArg not y47
    have eb : beg1 (d :: u) = if d = 33 ∨ d = 63 then 2 else if isLet d then 3 else if d ≠ 47 then 0 else beg2 u := by
      unfold beg1
      simp only
      rw [if_neg (by rw [hp]; simp)]
    rw [eb]
    clear eb hp
    by_cases h33 : d = 33
    · rw [decide_eq_true h33] at y33
      rw [if_pos (.inl h33)]
      clear hb hl h33 y63 y47
      go_enter Tryd.func13, Tryd.ntmps13
      go_wp2_with fail
      refine (hpre _).mono ?_
      rintro e w1 ⟨rfl, rfl⟩
      go_wp2_with fail
      go_ret
      exact ⟨rfl, rfl⟩
    rw [decide_eq_false h33] at y33
    by_cases h63 : d = 63
    · rw [decide_eq_true h63] at y63
      rw [if_pos (.inr h63)]
      clear hb hl h33 h63 y47
      go_enter Tryd.func13, Tryd.ntmps13
      go_wp2_with fail
      refine (hpre _).mono ?_
      rintro e w1 ⟨rfl, rfl⟩
      go_wp2_with fail
      go_ret
      exact ⟨rfl, rfl⟩
    rw [decide_eq_false h63] at y63
    rw [if_neg (by rintro (h | h) <;> contradiction)]
    cases hL : isLet d with
    | true =>
      rw [hL] at hlet
      rw [if_pos rfl]
      clear hb hl h33 h63 hL y47
      go_enter Tryd.func13, Tryd.ntmps13
      go_wp2_with fail
      refine (hpre _).mono ?_
      rintro e w1 ⟨rfl, rfl⟩
      go_wp2_with fail
      refine (hlet _).mono ?_
      rintro e w1 ⟨rfl, rfl⟩
      go_wp2_with fail
      go_ret
      exact ⟨rfl, rfl⟩
    | false =>
      rw [hL] at hlet
      rw [if_neg (by simp)]
      by_cases h47 : d = 47
      case neg =>
        rw [decide_eq_false h47] at y47
        have y47 : (y != 47) = true := y47
        rw [if_pos h47]
        clear hb hl h33 h63 hL h47
        go_enter Tryd.func13, Tryd.ntmps13
        go_wp2_with fail
        refine (hpre _).mono ?_
        rintro e w1 ⟨rfl, rfl⟩
        go_wp2_with fail
        refine (hlet _).mono ?_
        rintro e w1 ⟨rfl, rfl⟩
        go_wp2_with fail
        go_ret
        exact ⟨rfl, rfl⟩
      rw [decide_eq_true h47] at y47
      have y47 : (y != 47) = false := y47
      rw [if_neg (by simpa using h47)]
      rcases hu : u with _ | ⟨f, v⟩
      · have hs3 : s.size = 2 := by rw [← hl, hb, hu]; rfl
        show Calls _ _ _ _ fun e w' => e = .returned (.int .i64 ((0 : Nat) : Int)) ∧ w' = w
        clear hb hl h33 h63 hL h47 hu
        go_enter Tryd.func13, Tryd.ntmps13
        go_wp2_with fail
        refine (hpre _).mono ?_
        rintro e w1 ⟨rfl, rfl⟩
        go_wp2_with fail
        refine (hlet _).mono ?_
        rintro e w1 ⟨rfl, rfl⟩
        go_wp2_with fail
        go_ret
        exact ⟨rfl, rfl⟩
      subst hu
      have hs3 : 3 ≤ s.size := by rw [← hl, hb]; simp
      have i22 := fun w => idxK (s := s) (k := 2) (c := f) (by rw [hb]; rfl) w
      have hle2 := fun w => isLetter_any f w
      obtain ⟨x, hx⟩ : ∃ x : Int, x = (f.toNat : Int) := ⟨_, rfl⟩
      rw [← hx] at hle2
      have i2 : ∀ w, (Instr.index 9 (.string s) (.int .i64 2)).run Tryd.prog w = .ok (.int .u8 x) w := by
        rw [hx]
        exact i22
      clear hx i22
      have e2 : beg2 (f :: v) = if isLet f then 3 else 2 := rfl
      rw [e2]
      clear e2
      cases hF : isLet f with
      | true =>
        rw [hF] at hle2
        rw [if_pos rfl]
        clear hb hl h33 h63 hL h47 hF
        go_enter Tryd.func13, Tryd.ntmps13
        go_wp2_with fail
        refine (hpre _).mono ?_
        rintro e w1 ⟨rfl, rfl⟩
        go_wp2_with fail
        refine (hlet _).mono ?_
        rintro e w1 ⟨rfl, rfl⟩
        go_wp2_with fail
        refine (hle2 _).mono ?_
        rintro e w1 ⟨rfl, rfl⟩
        go_wp2_with fail
        go_ret
        exact ⟨rfl, rfl⟩
      | false =>
        rw [hF] at hle2
        rw [if_neg (by simp)]
        clear hb hl h33 h63 hL h47 hF
        go_enter Tryd.func13, Tryd.ntmps13
        go_wp2_with fail
        refine (hpre _).mono ?_
        rintro e w1 ⟨rfl, rfl⟩
        go_wp2_with fail
        refine (hlet _).mono ?_
        rintro e w1 ⟨rfl, rfl⟩
        go_wp2_with fail
        refine (hle2 _).mono ?_
        rintro e w1 ⟨rfl, rfl⟩
        go_wp2_with fail
        go_ret
        exact ⟨rfl, rfl⟩
end Go.Proofs.YtholfdfjapgfbaaDoor
